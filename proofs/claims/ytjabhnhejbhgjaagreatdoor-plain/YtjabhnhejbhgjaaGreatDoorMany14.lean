import Derived.Test.YtjabhnhejbhgjaaGreatDoorMany13
import Derived.Test.YtjabhnhejbhgjaaGreatDoorMany2
import Derived.Test.YtjabhnhejbhgjaaGreatDoorMany12
import Derived.Test.YtjabhnhejbhgjaaGreatDoorMany6
import Derived.Test.YtjabhnhejbhgjaaGreatDoorMany4
/- What is known of an object is the object's, and what is whole is the object. -/
namespace Go.Proofs.YtjabhnhejbhgjaaGreatDoor
open Go.RowKit

/-- The symbol at a place, by the place's byte. -/
def symF (K S : Nat) (l : List Gf.F) (q : Nat) (x : Gf.F) : List Gf.F := symOf (front (srcN K (symN S l.length) q)) (srcRows S l (q * K) (srcN K (symN S l.length) q)) x S
theorem symPl_symF (K S : Nat) (l : List Gf.F) (q pl : Nat) : symPl K S l q pl = symF K S l q (by8 pl) := rfl

/-- What is known is of the object. -/
structure Kn.Of (k : Kn) (l : List Gf.F) : Prop where
  len : k.len = l.length
  nd : ∀ i, i < k.ts.length → (gpt k.ts i).ps.Nodup
  gen : ∀ i, i < k.ts.length → ∀ t, t < (gpt k.ts i).rs.length → (rat (gpt k.ts i).rs t).l = symF k.K k.S l i (at_ (gpt k.ts i).ps t)

theorem nodup_apart {l : List Gf.F} (h : l.Nodup) : Gf.Apart (at_ l) l.length := by
  intro i j hi hj e
  have e' : l[i] = l[j] := by simpa [at_, List.getD, hi, hj] using e
  rcases Nat.lt_trichotomy i j with q | q | q
  · exact absurd e' ((List.pairwise_iff_getElem.1 h) i j hi hj q)
  · exact q
  · exact absurd e'.symm ((List.pairwise_iff_getElem.1 h) j i hj hi q)

theorem Kn.sy_own {k : Kn} {l : List Gf.F} (ok : k.Ok) (of : k.Of l) {i t : Nat} (hi : i < k.ts.length) (hw : (gpt k.ts i).rs.length = srcN k.K k.T i) (ht : t < srcN k.K k.T i) : k.sy i t = symAt k.S l (i * k.K + t) := by
  unfold Kn.sy
  have hT : symN k.S l.length = k.T := by rw [← of.len]; rfl
  have hn : (gpt k.ts i).ps.length = srcN k.K k.T i := (ok.same i hi).trans hw
  have h8 : srcN k.K k.T i ≤ 256 := by have := ok.cfg.k8; unfold srcN; omega
  have hap := nodup_apart (of.nd i hi)
  have hgen := of.gen i hi
  unfold symF at hgen
  rw [hT] at hgen
  rw [hw] at hgen
  rw [hn] at hap
  generalize srcN k.K k.T i = n at *
  generalize (gpt k.ts i).ps = ps at *
  generalize (gpt k.ts i).rs = rs at *
  refine list_ext (by rw [symOf_length, symAt_length]) (fun b hb => ?_)
  rw [symOf_length] at hb
  rw [symOf_at _ _ _ _ _ hb, hn]
  have e1 : ∀ j, j < n → at_ (rat rs j).l b = Gf.lag (at_ (front n)) (fun t => at_ (rat (srcRows k.S l (i * k.K) n) t).l b) n (at_ ps j) := by
    intro j hj
    rw [hgen j hj, symOf_at _ _ _ _ _ hb, front_length]
  rw [Gf.lag_congr (X' := at_ ps) (Y' := fun j => Gf.lag (at_ (front n)) (fun t => at_ (rat (srcRows k.S l (i * k.K) n) t).l b) n (at_ ps j)) (fun _ _ => rfl) e1, Gf.lag_lag hap, ← front_at n t ht, Gf.lag_at (front_apart h8) ht, srcRows_at _ _ _ _ _ ht]

theorem at_cat (a b : List Gf.F) (x : Nat) : at_ (a ++ b) x = if x < a.length then at_ a x else at_ b (x - a.length) := by
  unfold at_
  split
  · rename_i h
    simp [List.getD, List.getElem?_append_left h]
  · rename_i h
    simp [List.getD, List.getElem?_append_right (Nat.le_of_not_lt h)]

theorem symAt_at (S : Nat) (l : List Gf.F) (j b : Nat) (hb : b < S) : at_ (symAt S l j) b = at_ l (j * S + b) := by
  unfold symAt padS
  rw [at_cat]
  have hl : ((l.drop (j * S)).take S).length = min S (l.length - j * S) := by simp
  split
  · rename_i h
    rw [hl] at h
    unfold at_
    simp only [List.getD, List.getElem?_take, List.getElem?_drop]
    rw [if_pos hb]
  · rename_i h
    rw [hl] at h
    unfold at_
    have e1 : l[j * S + b]? = none := List.getElem?_eq_none (by omega)
    simp only [List.getD, e1]
    rw [List.getElem?_replicate]
    split <;> rfl

theorem Kn.part_at {k : Kn} {l : List Gf.F} (ok : k.Ok) (of : k.Of l) {i : Nat} (hi : i < k.ts.length) (hw : (gpt k.ts i).rs.length = srcN k.K k.T i) : ∀ t, t ≤ srcN k.K k.T i → ∀ x, x < t * k.S → at_ (k.part i t) x = at_ l (i * k.K * k.S + x)
  | 0, _, x, hx => by simp at hx
  | t + 1, ht, x, hx => by
    rw [Kn.part, at_cat, k.part_len]
    split
    · rename_i h
      exact k.part_at ok of hi hw t (by omega) x h
    · rename_i h
      rw [Nat.succ_mul] at hx
      rw [k.sy_own ok of hi hw (by omega), symAt_at _ _ _ _ (by omega), Nat.add_mul]
      congr 1
      omega

theorem Kn.cat_at {k : Kn} {l : List Gf.F} (ok : k.Ok) (of : k.Of l) (hw : k.whole) : ∀ i, i ≤ k.ts.length → ∀ x, x < min (i * k.K) k.T * k.S → at_ (k.cat i) x = at_ l x
  | 0, _, x, hx => by simp at hx
  | i + 1, hi, x, hx => by
    have hq : i < partsN k.T k.K := by rw [← ok.blocks]; omega
    have hiK : i * k.K < k.T := partsN_mul ok.cfg.k1 hq
    rw [Kn.cat, at_cat, k.cat_len i (by omega)]
    split
    · rename_i h
      exact k.cat_at ok of hw i (by omega) x h
    · rename_i h
      rw [Nat.min_eq_left (Nat.le_of_lt hiK)] at h ⊢
      have e : min ((i + 1) * k.K) k.T = i * k.K + srcN k.K k.T i := by rw [Nat.succ_mul]; unfold srcN; omega
      rw [e, Nat.add_mul] at hx
      rw [k.part_at ok of (by omega) (hw i (by omega)) _ (Nat.le_refl _) _ (by omega)]
      congr 1
      omega

/-- What is whole is the object. -/
theorem Kn.cat_of {k : Kn} {l : List Gf.F} (ok : k.Ok) (of : k.Of l) (hw : k.whole) : (k.cat k.ts.length).take k.len = l := by
  have hl := cat_take ok hw
  refine list_ext (by rw [hl, of.len]) (fun x hx => ?_)
  rw [hl] at hx
  have e : at_ ((k.cat k.ts.length).take k.len) x = at_ (k.cat k.ts.length) x := by
    unfold at_
    simp [List.getD, hx]
  rw [e]
  refine k.cat_at ok of hw _ (Nat.le_refl _) x ?_
  obtain ⟨k1, k8, kn, n16, s1, s8⟩ := ok.cfg
  have h1 := parts_cover k.T k1
  have h2 := parts_cover k.len s1
  have h3 : partsN k.len k.S ≤ k.T := by unfold Kn.T symN; omega
  rw [ok.blocks, Nat.min_eq_right h1]
  have h6 : partsN k.len k.S * k.S ≤ k.T * k.S := Nat.mul_le_mul_right _ h3
  omega

/-- Nothing is known yet. -/
theorem kn0_of {K N S bg : Nat} (l : List Gf.F) : (kn0 K N S l.length bg).Of l := by
  refine ⟨rfl, fun i hi => ?_, fun i hi t ht => ?_⟩
  · unfold kn0
    rw [gpt0]
    exact List.nodup_nil
  · unfold kn0 at ht
    rw [gpt0] at ht
    simp [pt0] at ht

/-- A symbol more. -/
theorem Kn.add_of {k : Kn} {l : List Gf.F} (ok : k.Ok) (of : k.Of l) {i : Nat} (hi : i < k.ts.length) {x : Gf.F} {r : Row} {pv sv : Value} (hu : k.use i x) (hr : r.l = symF k.K k.S l i x) : (k.add i x r pv sv).Of l := by
  have hlen : (k.add i x r pv sv).ts.length = k.ts.length := k.setT_len ..
  refine ⟨of.len, fun j hj => ?_, fun j hj t ht => ?_⟩
  · rw [hlen] at hj
    unfold Kn.add
    rw [Kn.setT_at hi]
    split
    · rename_i e
      subst e
      refine List.nodup_append.2 ⟨of.nd i hi, by simp, fun a ha b hb e => ?_⟩
      rw [List.mem_singleton.1 hb] at e
      exact hu.2 (e ▸ ha)
    · exact of.nd j hj
  · rw [hlen] at hj
    unfold Kn.add at ht ⊢
    rw [Kn.setT_at hi] at ht ⊢
    show (rat (if i = j then _ else _ : Pt).rs t).l = symF k.K k.S l j _
    split
    · rename_i e
      subst e
      rw [if_pos rfl] at ht
      simp only [List.length_append, List.length_singleton] at ht
      have hsm := ok.same i hi
      by_cases q : t < (gpt k.ts i).rs.length
      · have e1 : rat ((gpt k.ts i).rs ++ [r]) t = rat (gpt k.ts i).rs t := by simp [rat, List.getD, List.getElem?_append_left q]
        rw [e1, at_cat, if_pos (by omega)]
        exact of.gen i hi t q
      · obtain rfl : t = (gpt k.ts i).rs.length := by omega
        have e1 : rat ((gpt k.ts i).rs ++ [r]) (gpt k.ts i).rs.length = r := by simp [rat, List.getD]
        rw [e1, at_cat, if_neg (by omega), hsm, Nat.sub_self]
        exact hr
    · rename_i e
      rw [if_neg e] at ht
      exact of.gen j hj t ht

end Go.Proofs.YtjabhnhejbhgjaaGreatDoor

/- How a receiver looks from outside; what it hears of a sender. -/
namespace Go.Proofs.YtjabhnhejbhgjaaGreatDoor
open Go.RowKit

theorem by8_nat {x : Nat} (h : x < 256) : (by8 x).toNat = x := by unfold by8; rw [BitVec.toNat_ofNat]; omega

/-- The packet of a symbol, read. -/
theorem pkt_reads {s : Snd} {i q p : Nat} (ok : s.Ok0) (hi : i < s.os.length) (hq : q < s.Q i) (hp : plcN s.K s.N (s.T i) q p = true) :
    parseE s.K s.N s.S (s.pkt i q p) = none ∧ bt (s.pkt i q p) 0 = 1 ∧ bt (s.pkt i q p) 1 = i ∧ lenOf (s.pkt i q p) = (oat s.os i).l.length ∧ bt ((s.pkt i q p).drop 4) 0 = q ∧ at_ ((s.pkt i q p).drop 4) 1 = by8 p ∧ ((s.pkt i q p).drop 4).drop 2 = symPl s.K s.S (oat s.os i).l q p := by
  obtain ⟨k1, k8, kn, n16, s1, s8⟩ := ok.cfg
  have hlen := ok.len i hi
  have hfew := ok.few
  have hTr := symN_range (S := s.S) (len := (oat s.os i).l.length) s1
  have hQl := partsN_le (a := s.T i) k1
  have hq2 : q < 256 := by unfold Snd.Q at hq; unfold Snd.T at hQl hq; omega
  have hp2 : p < 16 := by
    have := of_decide_eq_true hp
    unfold srcN at this
    omega
  have hd := symPl_length s.K s.S (oat s.os i).l q p
  unfold Snd.T at hp
  unfold Snd.Q Snd.T at hq
  unfold Snd.pkt dataOf
  generalize symPl s.K s.S (oat s.os i).l q p = d at *
  generalize (oat s.os i).l.length = n at *
  have e0 : bt ([by8 1, by8 i, by8 (n / 256), by8 n, by8 q, by8 p] ++ d) 0 = 1 := rfl
  have e1 : bt ([by8 1, by8 i, by8 (n / 256), by8 n, by8 q, by8 p] ++ d) 1 = i := by show (by8 i).toNat = i; exact by8_nat (by omega)
  have e2 : bt ([by8 1, by8 i, by8 (n / 256), by8 n, by8 q, by8 p] ++ d) 2 = 0 := by show (by8 (n / 256)).toNat = 0; rw [by8_nat (by omega)]; omega
  have e3 : bt ([by8 1, by8 i, by8 (n / 256), by8 n, by8 q, by8 p] ++ d) 3 = n := by show (by8 n).toNat = n; exact by8_nat (by omega)
  have e4 : ([by8 1, by8 i, by8 (n / 256), by8 n, by8 q, by8 p] ++ d).drop 4 = [by8 q, by8 p] ++ d := rfl
  have e5 : bt ([by8 q, by8 p] ++ d) 0 = q := by show (by8 q).toNat = q; exact by8_nat hq2
  have e6 : bt ([by8 q, by8 p] ++ d) 1 = p := by show (by8 p).toNat = p; exact by8_nat (by omega)
  have hl : lenOf ([by8 1, by8 i, by8 (n / 256), by8 n, by8 q, by8 p] ++ d) = n := by unfold lenOf; rw [e2, e3]; omega
  refine ⟨?_, e0, e1, hl, by rw [e4]; exact e5, rfl, rfl⟩
  have hh : headE ([by8 1, by8 i, by8 (n / 256), by8 n, by8 q, by8 p] ++ d) = none := by
    unfold headE
    rw [e0, e1, e2, e3]
    have hL : ([by8 1, by8 i, by8 (n / 256), by8 n, by8 q, by8 p] ++ d).length = 6 + d.length := by simp; omega
    rw [hL, if_neg (by omega), if_neg (by decide), if_neg (by omega), if_neg (by simp [objB]; omega), if_neg (by omega), if_neg (by simp [lenB]; omega)]
  unfold parseE
  rw [hh]
  simp only [e0, hl, e4, if_pos]
  rw [Option.map_eq_none_iff]
  unfold dataB
  have hL2 : ([by8 q, by8 p] ++ d).length = 2 + s.S := by simp; omega
  rw [hL2, e5, e6, if_neg (by omega), if_neg, if_neg (by omega), if_neg, if_neg (by omega), if_neg (by omega)]
  · rw [hp]; simp
  · rw [winB_yes (by omega) (by omega)]; simp

/-- What a receiver knows, and what it has taken. -/
structure Vw where
  see : Nat → Option (List (List Gf.F))
  tk : List Bool
def Rcv.vw (r : Rcv) : Vw := ⟨fun m => (r.kf m).map fun p => p.2.ts.map Pt.ps, r.tk⟩
def lat (ps : List (List Gf.F)) (i : Nat) : List Gf.F := ps.getD i []
theorem lat_map (ts : List Pt) (i : Nat) : lat (ts.map Pt.ps) i = (gpt ts i).ps := by
  unfold lat gpt
  rw [List.getD_eq_getElem?_getD, List.getD_eq_getElem?_getD, List.getElem?_map]
  cases ts[i]? <;> rfl
theorem lat_set {ps : List (List Gf.F)} {i : Nat} (hi : i < ps.length) (x : List Gf.F) (j : Nat) : lat (ps.set i x) j = if i = j then x else lat ps j := by
  unfold lat
  rw [List.getD_eq_getElem?_getD, List.getD_eq_getElem?_getD, List.getElem?_set]
  split
  · rename_i e; subst e; simp
  · rfl
def addP (K T : Nat) (ps : List (List Gf.F)) (q : Nat) (x : Gf.F) : List (List Gf.F) := if (lat ps q).length < srcN K T q ∧ ¬ x ∈ lat ps q then ps.set q (lat ps q ++ [x]) else ps
def fullP (K T : Nat) (ps : List (List Gf.F)) : Bool := (List.range ps.length).all fun i => (lat ps i).length == srcN K T i
theorem fullP_iff {K T : Nat} {ps : List (List Gf.F)} : fullP K T ps = true ↔ ∀ i, i < ps.length → (lat ps i).length = srcN K T i := by
  unfold fullP
  rw [List.all_eq_true]
  refine ⟨fun h i hi => ?_, fun h i hi => ?_⟩
  · simpa using h i (List.mem_range.2 hi)
  · simpa using h i (List.mem_range.1 hi)
theorem addP_len (K T : Nat) (ps : List (List Gf.F)) (q : Nat) (x : Gf.F) : (addP K T ps q x).length = ps.length := by
  unfold addP
  split
  · simp
  · rfl
/-- What is known of an object is now this: it may be whole. -/
def Vw.put (K T : Nat) (v : Vw) (i : Nat) (ps : List (List Gf.F)) : Vw := if fullP K T ps = true then ⟨updF v.see i none, v.tk.set i true⟩ else ⟨updF v.see i (some ps), v.tk⟩
/-- A symbol is heard. -/
def Vw.got (K T : Nat) (v : Vw) (i q : Nat) (x : Gf.F) : Vw :=
  if v.tk.getD i false = true then v else
  match v.see i with
  | some ps => v.put K T i (addP K T ps q x)
  | none => if cntF v.see 16 = 4 then v else v.put K T i (addP K T (List.replicate (partsN T K) []) q x)

theorem cnt_see (r : Rcv) : ∀ n, cntF r.vw.see n = cntF r.kf n
  | 0 => rfl
  | n + 1 => by
    unfold cntF
    rw [cnt_see r n]
    unfold Rcv.vw
    simp

theorem kept_ps {k k' : Kn} {i : Nat} {x : Gf.F} {d : List Gf.F} (ok : k.Ok) (hi : i < k.ts.length) (h : Kept k i x d k') : k'.ts.map Pt.ps = addP k.K k.T (k.ts.map Pt.ps) i x ∧ k'.len = k.len ∧ k'.K = k.K ∧ k'.N = k.N ∧ k'.S = k.S := by
  have hu : k.use i x ↔ ((lat (k.ts.map Pt.ps) i).length < srcN k.K k.T i ∧ ¬ x ∈ lat (k.ts.map Pt.ps) i) := by
    rw [lat_map, ok.same i hi]
    unfold Kn.use Kn.lk
    constructor
    · rintro ⟨h1, h2⟩; exact ⟨by omega, h2⟩
    · rintro ⟨h1, h2⟩; exact ⟨by omega, h2⟩
  unfold addP
  rcases h with ⟨hn, rfl⟩ | ⟨hy, q, pv, sv, _, _, rfl⟩
  · rw [if_neg (fun z => hn (hu.2 z))]
    exact ⟨rfl, rfl, rfl, rfl, rfl⟩
  · rw [if_pos (hu.1 hy), lat_map]
    refine ⟨?_, rfl, rfl, rfl, rfl⟩
    unfold Kn.add Kn.setT
    simp [List.map_set]
theorem whole_full {k : Kn} (ok : k.Ok) : k.whole ↔ fullP k.K k.T (k.ts.map Pt.ps) = true := by
  rw [fullP_iff]
  unfold Kn.whole
  constructor
  · intro h i hi
    rw [List.length_map] at hi
    rw [lat_map, ok.same i hi]
    exact h i hi
  · intro h i hi
    have := h i (by rw [List.length_map]; exact hi)
    rw [lat_map, ok.same i hi] at this
    exact this

/-- A receiver that heard packets of these objects alone. -/
structure RGen (os : List Ob) (K N S : Nat) (r : Rcv) : Prop where
  cfg : r.K = K ∧ r.N = N ∧ r.S = S
  known : ∀ m kb k, m < 16 → r.kf m = some (kb, k) → m < os.length ∧ k.Of (oat os m).l ∧ ¬ k.whole ∧ r.tk.getD m false = false
  tk : ∀ m, r.tk.getD m false = true → m < os.length

theorem Rcv.done_ok {r : Rcv} (ok : r.Ok) {u : Un} {v : Value} (hu : r.un.length < 16) (hn : u.n < 16) : (r.done u v).Ok := by
  refine ⟨ok.cfg, ?_, ?_, fun m kb k hm h => ?_, ?_⟩
  · show (r.tk.set u.n true).length = 16
    rw [List.length_set]; exact ok.tk
  · show (r.un ++ [u]).length ≤ 16
    simp; omega
  · change updF r.kf u.n none m = some (kb, k) at h
    by_cases e : m = u.n
    · subst e
      rw [updF_same] at h
      cases h
    · rw [updF_other _ _ e] at h
      exact ok.known m kb k hm h
  · show cntF (updF r.kf u.n none) 16 ≤ 4
    have h1 := cnt_upd r.kf u.n none 16 hn
    have h2 := ok.few
    simp at h1
    omega

theorem vw_know (r : Rcv) (m kb : Nat) (k : Kn) : (r.know m kb k).vw = ⟨updF r.vw.see m (some (k.ts.map Pt.ps)), r.vw.tk⟩ := by
  unfold Rcv.vw Rcv.know
  simp only [Vw.mk.injEq, and_true]
  funext i
  unfold updF
  split <;> rfl
theorem vw_done (r : Rcv) (u : Un) (v : Value) : (r.done u v).vw = ⟨updF r.vw.see u.n none, r.vw.tk.set u.n true⟩ := by
  unfold Rcv.vw Rcv.done Rcv.took Rcv.strike
  simp only [Vw.mk.injEq, and_true]
  funext i
  unfold updF
  split <;> rfl
theorem updF_twice {α : Type} (f : Nat → Option α) (m : Nat) (x y : Option α) : updF (updF f m x) m y = updF f m y := by
  funext i
  unfold updF
  split <;> rfl

theorem getD_set_true {l : List Bool} {i m : Nat} (h : (l.set i true).getD m false = true) : l.getD m false = true ∨ (m = i ∧ i < l.length) := by
  rw [List.getD_eq_getElem?_getD, List.getElem?_set] at h
  split at h
  · rename_i e
    split at h
    · exact .inr ⟨e.symm, by assumption⟩
    · simp at h
  · exact .inl (by rw [List.getD_eq_getElem?_getD]; exact h)
theorem getD_set_false {l : List Bool} {i m : Nat} (h : l.getD m false = false) (hne : m ≠ i) : (l.set i true).getD m false = false := by
  rw [List.getD_eq_getElem?_getD, List.getElem?_set, if_neg (Ne.symm hne)]
  rw [List.getD_eq_getElem?_getD] at h
  exact h

/-- What a receiver is behind a packet of the sender. -/
structure HeardIs (A : Nat → Addr) (s : Snd) (i q p : Nat) (r : Rcv) (B rb : Nat) (w : World) (e : Ending) (w' : World) (r' : Rcv) : Prop where
  at_ : RcAt w' B rb r'
  ok : r'.Ok
  but : But (r.foot rb) w w'
  foot : ∀ b, r'.foot rb b → r.foot rb b ∨ w.heap.size ≤ b
  vw : r'.vw = r.vw.got s.K (s.T i) i q (by8 p)
  gen : RGen s.os s.K s.N s.S r'
  shut : r'.shut = false
  tells : e = .returned .nilIface ∨ e = .returned (E A 3)
  un : (r'.un = [] ∧ r'.tk = r.tk) ∨ ∃ u, r'.un = [u] ∧ u.n = i ∧ u.l = (oat s.os i).l ∧ r.tk.getD i false = false ∧ r'.tk = r.tk.set i true

theorem hears_gen {A : Nat → Addr} {s : Snd} {i q p B rb : Nat} {r : Rcv} {w w' : World} {e : Ending} (hR : RcAt w B rb r) (ok : r.Ok) (g : RGen s.os s.K s.N s.S r) (okS : s.Ok0) (hs : r.shut = false) (hi : i < s.os.length) (hq : q < s.Q i) (hp : plcN s.K s.N (s.T i) q p = true) (hun : r.un = [])
    (h : RcvHears A r (s.pkt i q p) B rb w e w') : ∃ r', HeardIs A s i q p r B rb w e w' r' := by
  obtain ⟨p1, p2, p3, p4, p5, p6, p7⟩ := pkt_reads okS hi hq hp
  obtain ⟨c1, c2, c3⟩ := g.cfg
  have hi16 : i < 16 := by have := okS.few; omega
  unfold RcvHears at h
  rw [hs, if_neg (by simp), c1, c2, c3, p1] at h
  simp only [p2, p3, p4, p5, p6, p7] at h
  split at h
  · rename_i ht
    obtain ⟨rfl, hb⟩ := h
    have ht : r.tk.getD i false = true := by rcases ht with ht | ht; exact absurd trivial ht; exact ht
    refine ⟨r, hR.above hb, ok, Below.but hb _ (fun i h1 h2 => absurd h1 h2), fun b z => .inl z, ?_, g, hs, .inl rfl, .inl ⟨hun, rfl⟩⟩
    unfold Vw.got
    rw [if_pos (show r.vw.tk.getD i false = true from ht)]
  · rename_i ht
    have ht : r.tk.getD i false = false := by
      cases q : r.tk.getD i false with
      | false => rfl
      | true => exact absurd (.inr q) ht
    have hgot : r.vw.got s.K (s.T i) i q (by8 p) = match r.vw.see i with
      | some ps => r.vw.put s.K (s.T i) i (addP s.K (s.T i) ps q (by8 p))
      | none => if cntF r.vw.see 16 = 4 then r.vw else r.vw.put s.K (s.T i) i (addP s.K (s.T i) (List.replicate (partsN (s.T i) s.K) []) q (by8 p)) := by
      unfold Vw.got
      rw [if_neg (by show ¬ r.tk.getD i false = true; rw [ht]; simp)]
    rcases h with ⟨kb, k, v, he, hne, _⟩ | ⟨he, hc, rfl, hb⟩ | ⟨rfl, hbu, kb, k, r1, k', hbg, hkept, hend⟩
    · exact absurd (g.known i kb k hi16 he).2.1.len hne
    · refine ⟨r, hR.above hb, ok, Below.but hb _ (fun i h1 h2 => absurd h1 h2), fun b z => .inl z, ?_, g, hs, .inr rfl, .inl ⟨hun, rfl⟩⟩
      rw [hgot]
      have e1 : r.vw.see i = none := by unfold Rcv.vw; simp [he]
      rw [e1]
      show r.vw = if _ then _ else _
      rw [if_pos (by rw [cnt_see]; exact hc)]
    · obtain ⟨f1, f2, f3, f4, f5, f6, f7⟩ := hbg.facts
      have hk1 : r1.kf i = some (kb, k) ∧ r1.tk = r.tk ∧ r1.shut = r.shut ∧ (∀ m, m ≠ i → r1.kf m = r.kf m) ∧ k.Of (oat s.os i).l ∧ k.Ok ∧ k.K = s.K ∧ k.N = s.N ∧ k.S = s.S ∧ r1.Ok := by
        rcases hbg with ⟨he, hl, rfl⟩ | ⟨he, hc, ⟨bg, rfl⟩, rfl⟩
        · obtain ⟨o1, o2, o3, o4⟩ := ok.known i kb k hi16 he
          exact ⟨he, rfl, rfl, fun _ _ => rfl, (g.known i kb k hi16 he).2.1, o1, o2.trans c1, o3.trans c2, o4.trans c3, ok⟩
        · have okn : (kn0 r.K r.N r.S (oat s.os i).l.length bg).Ok := kn0_ok ok.cfg (okS.len i hi)
          exact ⟨updF_same _ _ _, rfl, rfl, fun m hm => updF_other _ _ hm, kn0_of _, okn, c1, c2, c3, Rcv.put_ok ok hi16 he hc ⟨okn, rfl, rfl, rfl⟩⟩
      obtain ⟨hk1, ht1, hs1, hm1, hof, hko, kK, kN, kS, ok1⟩ := hk1
      have hT : k.T = s.T i := by unfold Kn.T Snd.T; rw [kS, hof.len]
      have hlt : q < k.ts.length := by rw [hko.blocks, hT, kK]; exact hq
      obtain ⟨m1, m2, m3, m4, m5⟩ := kept_ps hko hlt hkept
      have hof' : k'.Of (oat s.os i).l := by
        rcases hkept with ⟨_, rfl⟩ | ⟨hu, rw_, pv, sv, hd, ho, rfl⟩
        · exact hof
        · refine Kn.add_of hko hof hlt hu ?_
          rw [hd, symPl_symF, kK, kS]
      have hko' : k'.Ok := by
        rcases hkept with ⟨_, rfl⟩ | ⟨hu, rw_, pv, sv, hd, ho, rfl⟩
        · exact hko
        · exact Kn.add_ok hko hlt hu.1 ⟨by rw [hd, symPl_length, kS], ho⟩
      have hT' : k'.T = s.T i := by unfold Kn.T at hT ⊢; rw [m5, m2]; exact hT
      have ok2 : (r1.know i kb k').Ok := Rcv.know_ok ok1 hi16 hk1 ⟨hko', by rw [m3, kK, f2, c1], by rw [m4, kN, f3, c2], by rw [m5, kS, f4, c3]⟩
      have hput : r.vw.got s.K (s.T i) i q (by8 p) = r.vw.put s.K (s.T i) i (k'.ts.map Pt.ps) := by
        rw [hgot, m1, kK, hT]
        rcases hbg with ⟨he, hl, rfl⟩ | ⟨he, hc, ⟨bg, rfl⟩, rfl⟩
        · have e1 : r1.vw.see i = some (k.ts.map Pt.ps) := by unfold Rcv.vw; simp [he]
          rw [e1]
        · have e1 : r.vw.see i = none := by unfold Rcv.vw; simp [he]
          rw [e1]
          show (if _ then _ else _) = _
          rw [if_neg (by rw [cnt_see]; omega)]
          have e2 : (kn0 r.K r.N r.S (oat s.os i).l.length bg).ts.map Pt.ps = List.replicate (partsN (s.T i) s.K) [] := by
            unfold kn0
            rw [List.map_replicate, c1, c3]
            rfl
          rw [e2]
      have hgk : ∀ m kb' k2, m < 16 → m ≠ i → r1.kf m = some (kb', k2) → m < s.os.length ∧ k2.Of (oat s.os m).l ∧ ¬ k2.whole ∧ r.tk.getD m false = false := fun m kb' k2 hm hne he => g.known m kb' k2 hm (by rw [← hm1 m hne]; exact he)
      have hsee : ∀ x, updF r1.vw.see i x = updF r.vw.see i x := fun x => by
        funext m
        unfold updF
        split
        · rfl
        · rename_i hne
          unfold Rcv.vw
          simp only [hm1 m hne]
      rcases hend with ⟨hnw, hRn, hft⟩ | ⟨hw, gb, v, hRn, hft⟩
      · refine ⟨_, hRn, ok2, hbu, hft, ?_, ⟨⟨f2.trans c1, f3.trans c2, f4.trans c3⟩, fun m kb' k2 hm he => ?_, fun m hm => g.tk m (by rw [← ht1]; exact hm)⟩, by show r1.shut = false; rw [hs1, hs], .inl rfl, .inl ⟨by show r1.un = []; rw [f5, hun], ht1⟩⟩
        · rw [hput]
          unfold Vw.put
          have hnf : ¬ fullP s.K (s.T i) (k'.ts.map Pt.ps) = true := fun z => hnw ((whole_full hko').2 (by rw [m3, kK, hT']; exact z))
          rw [if_neg hnf, vw_know, hsee]
          show _ = Vw.mk _ r.tk
          rw [← ht1]
          rfl
        · change updF r1.kf i (some (kb, k')) m = some (kb', k2) at he
          show m < _ ∧ _ ∧ _ ∧ r1.tk.getD m false = false
          rw [ht1]
          by_cases e : m = i
          · subst e
            rw [updF_same] at he
            cases he
            exact ⟨hi, hof', hnw, ht⟩
          · rw [updF_other _ _ e] at he
            exact hgk m kb' k2 hm e he
      · refine ⟨_, hRn, Rcv.done_ok ok2 (by show r1.un.length < 16; rw [f5, hun]; simp) hi16, hbu, hft, ?_, ⟨⟨f2.trans c1, f3.trans c2, f4.trans c3⟩, fun m kb' k2 hm he => ?_, fun m hm => ?_⟩, by show r1.shut = false; rw [hs1, hs], .inl rfl, .inr ⟨_, by show r1.un ++ [_] = _; rw [f5, hun]; rfl, rfl, ?_, ht, by show r1.tk.set i true = _; rw [ht1]⟩⟩
        · rw [hput]
          unfold Vw.put
          have hf : fullP s.K (s.T i) (k'.ts.map Pt.ps) = true := by
            have := (whole_full hko').1 hw
            rw [m3, kK, hT'] at this
            exact this
          rw [if_pos hf, vw_done, vw_know]
          show Vw.mk (updF (updF _ i _) i none) (r1.tk.set i true) = Vw.mk _ (r.tk.set i true)
          rw [updF_twice, hsee, ht1]
        · change updF (updF r1.kf i (some (kb, k'))) i none m = some (kb', k2) at he
          rw [updF_twice] at he
          show m < _ ∧ _ ∧ _ ∧ (r1.tk.set i true).getD m false = false
          by_cases e : m = i
          · subst e
            rw [updF_same] at he
            cases he
          · rw [updF_other _ _ e] at he
            obtain ⟨g1, g2, g3, g4⟩ := hgk m kb' k2 hm e he
            exact ⟨g1, g2, g3, getD_set_false (by rw [ht1]; exact g4) e⟩
        · change (r1.tk.set i true).getD m false = true at hm
          rcases getD_set_true hm with z | ⟨rfl, _⟩
          · exact g.tk m (by rw [← ht1]; exact z)
          · exact hi
        · exact Kn.cat_of hko' hof' hw

end Go.Proofs.YtjabhnhejbhgjaaGreatDoor

/- Senders of the program: what may be, stays so. -/
namespace Go.Proofs.YtjabhnhejbhgjaaGreatDoor
open Go.RowKit

theorem Snd.T_pos {s : Snd} (ok : s.Ok0) (i : Nat) : 1 ≤ s.T i := (symN_range (S := s.S) (len := (oat s.os i).l.length) ok.cfg.s1).1

theorem Snd.step_ok {s : Snd} (ok : s.Ok) (hn : s.no < s.os.length) : s.step.Ok := by
  have hsym := ok.sym hn
  unfold Snd.step
  split
  · refine ⟨⟨ok.cfg, ok.few, ok.len⟩, ok.blocks, ok.debt, hn, fun _ => ?_, fun _ => rfl⟩
    exact s.T_pos ok.toOk0 (s.no + 1)
  · refine ⟨⟨ok.cfg, ok.few, ok.len⟩, ok.blocks, ok.debt, ok.next, fun _ => ?_, fun h => ?_⟩
    · show s.ns + 1 < s.T s.no
      omega
    · have h' : s.no = s.os.length := h
      omega

theorem Snd.setD_ok {s : Snd} (ok : s.Ok) {i q : Nat} (hi : i < s.os.length) (hq : q < s.Q i) {d : Nat × Nat} (h1 : d.1 ≤ 8) (h2 : d.2 < s.R i q) : (s.setD i q d).Ok := by
  have kT : ∀ j, (s.setD i q d).T j = s.T j := s.setD_T hi q d
  have kQ : ∀ j, (s.setD i q d).Q j = s.Q j := fun j => by unfold Snd.Q; rw [kT]; rfl
  have kR : ∀ j r, (s.setD i q d).R j r = s.R j r := fun j r => by unfold Snd.R; rw [kT]; rfl
  refine ⟨s.setD_ok0 ok.toOk0 hi q d, fun j hj => ?_, fun j r hj hr => ?_, by rw [s.setD_len]; exact ok.next, fun h => ?_, fun h => ?_⟩
  · rw [s.setD_len] at hj
    rw [kQ, s.setD_at hi]
    split
    · rename_i e; subst e
      simp [Ob.setD]; exact ok.blocks i hi
    · exact ok.blocks j hj
  · rw [s.setD_len] at hj
    rw [kQ] at hr
    rw [kR, s.setD_at hi]
    split
    · rename_i e; subst e
      by_cases e : r = q
      · subst e
        have : dat ((oat s.os i).setD r d).ds r = d := by simp [dat, Ob.setD, List.getD, (ok.blocks i hi).symm ▸ hr]
        rw [this]; exact ⟨h1, h2⟩
      · have : dat ((oat s.os i).setD q d).ds r = dat (oat s.os i).ds r := by simp [dat, Ob.setD, List.getD, Ne.symm e]
        rw [this]; exact ok.debt i r hi hr
    · exact ok.debt j r hj hr
  · rw [s.setD_len] at h
    rw [kT]
    exact ok.sym h
  · rw [s.setD_len] at h
    exact ok.done h

theorem Snd.R_pos {s : Snd} (ok : s.Ok) {i q : Nat} (hi : i < s.os.length) (hq : q < s.Q i) : 1 ≤ s.R i q := by
  have := (ok.debt i q hi hq).2
  omega

theorem Snd.pay_ok {s : Snd} (ok : s.Ok) {i q : Nat} (ho : s.owes i q) : (s.pay i q).Ok :=
  s.setD_ok ok ho.1 ho.2.1 (by have := (ok.debt i q ho.1 ho.2.1).1; show _ - 1 ≤ 8; omega) (Nat.mod_lt _ (s.R_pos ok ho.1 ho.2.1))

theorem NextIs.ok {s s' : Snd} {l : List Gf.F} (h : NextIs s l s') (ok : s.Ok) : s'.Ok := by
  rcases h with ⟨h, rfl, rfl⟩ | ⟨_, i, q, ho, _, rfl, rfl⟩
  · exact s.step_ok ok h
  · exact s.pay_ok ok ho

theorem Snd.askN_ok {s : Snd} (ok : s.Ok) {i : Nat} (hi : i < s.os.length) {m : List Gf.F} {M : Nat} (hv : ∀ k, k < M → bt m (1 + 2 * k) < s.Q i ∧ bt m (1 + 2 * k + 1) ≤ 8) : ∀ k, k ≤ M → (s.askN i m k).Ok ∧ (∀ j, (s.askN i m k).Q j = s.Q j)
  | 0, _ => ⟨ok, fun _ => rfl⟩
  | k + 1, hk => by
    obtain ⟨ih, ihQ⟩ := askN_ok ok hi hv k (by omega)
    have hi' : i < (s.askN i m k).os.length := by rw [askN_len]; exact hi
    have h8 := hv k (by omega)
    have hq' : bt m (1 + 2 * k) < (s.askN i m k).Q i := by rw [ihQ]; exact h8.1
    have hd := ih.debt i _ hi' hq'
    refine ⟨Snd.setD_ok ih hi' hq' (by show max _ _ ≤ 8; omega) hd.2, fun j => ?_⟩
    show ((s.askN i m k).setD i _ _).Q j = _
    unfold Snd.Q
    rw [Snd.setD_T hi']
    exact ihQ j

/-- A step of a sender writes into the sender's blocks, and new ones; its blocks then are its blocks before, or new. -/
theorem Snd.foot_setD {s : Snd} {i : Nat} (hi : i < s.os.length) (q : Nat) (d : Nat × Nat) (sb b : Nat) : (s.setD i q d).foot sb b ↔ s.foot sb b := by
  have key : ∀ j, (oat (s.setD i q d).os j).dg = (oat s.os j).dg ∧ (oat (s.setD i q d).os j).bv = (oat s.os j).bv := fun j => by
    rw [s.setD_at hi]; split
    · rename_i e; subst e; exact ⟨rfl, rfl⟩
    · exact ⟨rfl, rfl⟩
  unfold Snd.foot
  rw [s.setD_len]
  constructor
  · rintro (h | h | ⟨j, hj, h⟩)
    · exact .inl h
    · exact .inr (.inl h)
    · exact .inr (.inr ⟨j, hj, by rw [(key j).1, (key j).2] at h; exact h⟩)
  · rintro (h | h | ⟨j, hj, h⟩)
    · exact .inl h
    · exact .inr (.inl h)
    · exact .inr (.inr ⟨j, hj, by rw [(key j).1, (key j).2]; exact h⟩)
theorem Snd.foot_askN {s : Snd} {i : Nat} (hi : i < s.os.length) (m : List Gf.F) (sb b : Nat) : ∀ k, (s.askN i m k).foot sb b ↔ s.foot sb b
  | 0 => Iff.rfl
  | k + 1 => (Snd.foot_setD (by rw [askN_len]; exact hi) _ _ sb b).trans (Snd.foot_askN hi m sb b k)
theorem Snd.foot_step (s : Snd) (sb b : Nat) : s.step.foot sb b ↔ s.foot sb b := by
  unfold Snd.step
  split <;> exact Iff.rfl
theorem NextIs.foot {s s' : Snd} {l : List Gf.F} (h : NextIs s l s') (sb b : Nat) : s'.foot sb b ↔ s.foot sb b := by
  rcases h with ⟨_, rfl, rfl⟩ | ⟨_, i, q, ho, _, rfl, rfl⟩
  · exact s.foot_step sb b
  · exact Snd.foot_setD ho.1 _ _ sb b

end Go.Proofs.YtjabhnhejbhgjaaGreatDoor

/- The numbers of what is wrong with a packet. -/
namespace Go.Proofs.YtjabhnhejbhgjaaGreatDoor
open Go.RowKit

theorem headE_some {l : List Gf.F} {c k : Nat} (h : headE l = some (c, k)) : ∃ i, i < 8 ∧ c = i + 1 := by
  unfold headE at h
  split at h
  · cases h; exact ⟨3, by omega, rfl⟩
  split at h
  · cases h; exact ⟨4, by omega, rfl⟩
  split at h
  · cases h; exact ⟨3, by omega, rfl⟩
  split at h
  · cases h; exact ⟨5, by omega, rfl⟩
  split at h
  · cases h; exact ⟨3, by omega, rfl⟩
  split at h
  · cases h; exact ⟨5, by omega, rfl⟩
  · cases h
theorem dataB_code {K N S T c k : Nat} {m : List Gf.F} (h : dataB K N S T m = some (c, k)) : ∃ i, i < 8 ∧ c = i + 1 := by
  unfold dataB at h
  split at h
  · cases h; exact ⟨3, by omega, rfl⟩
  split at h
  · cases h; exact ⟨5, by omega, rfl⟩
  split at h
  · cases h; exact ⟨3, by omega, rfl⟩
  split at h
  · cases h; exact ⟨5, by omega, rfl⟩
  split at h
  · cases h; exact ⟨3, by omega, rfl⟩
  split at h
  · cases h; exact ⟨6, by omega, rfl⟩
  · cases h
theorem lackB_code {K T c p k least : Nat} {m : List Gf.F} (h : lackB K T m k least = some (c, p)) : ∃ i, i < 8 ∧ c = i + 1 := by
  unfold lackB at h
  split at h
  · cases h; exact ⟨3, by omega, rfl⟩
  split at h
  · cases h; exact ⟨5, by omega, rfl⟩
  split at h
  · cases h; exact ⟨3, by omega, rfl⟩
  split at h
  · cases h; exact ⟨5, by omega, rfl⟩
  · cases h
theorem asksFrom_code {K T c p : Nat} {m : List Gf.F} : ∀ {r i least : Nat}, asksFrom K T m r i least = some (c, p) → ∃ i, i < 8 ∧ c = i + 1
  | 0, i, _, h => by
    unfold asksFrom at h
    split at h
    · cases h; exact ⟨6, by omega, rfl⟩
    · cases h
  | r + 1, i, least, h => by
    unfold asksFrom at h
    cases hl : lackB K T m (1 + 2 * i) least with
    | some e => rw [hl] at h; cases h; exact lackB_code hl
    | none => rw [hl] at h; exact asksFrom_code h
theorem parseE_code {K N S c k : Nat} {l : List Gf.F} (h : parseE K N S l = some (c, k)) : ∃ i, i < 8 ∧ c = i + 1 := by
  unfold parseE at h
  cases hh : headE l with
  | some e => rw [hh] at h; cases h; exact headE_some hh
  | none =>
    rw [hh] at h
    simp only [Option.map_eq_some_iff] at h
    obtain ⟨⟨c', k'⟩, h1, h2⟩ := h
    simp only [Prod.mk.injEq] at h2
    obtain ⟨rfl, _⟩ := h2
    split at h1
    · exact dataB_code h1
    · unfold asksB at h1
      split at h1
      · cases h1; exact ⟨3, by omega, rfl⟩
      split at h1
      · cases h1; exact ⟨5, by omega, rfl⟩
      · exact asksFrom_code h1

end Go.Proofs.YtjabhnhejbhgjaaGreatDoor

/- What Hear of the program says, and what becomes of the sender. -/
namespace Go.Proofs.YtjabhnhejbhgjaaGreatDoor
open Go.RowKit

theorem Snd.asksQ {s : Snd} (ok : s.Ok) {l : List Gf.F} (hp : parseE s.K s.N s.S l = none) (h2 : lenOf l = (oat s.os (bt l 1)).l.length) (h3 : ¬ bt l 0 = 1) : ∀ k, k < bt (l.drop 4) 0 → bt (l.drop 4) (1 + 2 * k) < s.Q (bt l 1) ∧ bt (l.drop 4) (1 + 2 * k + 1) ≤ 8 := by
  intro k hk
  obtain ⟨_, _, _, h9⟩ := parse_asks hp h3
  have h9 := h9 k hk
  have hT9 : symN s.S (lenOf l) = s.T (bt l 1) := by unfold Snd.T; rw [h2]
  rw [hT9] at h9
  obtain ⟨k1, k8, kn, n16, s1, s8⟩ := ok.cfg
  have : srcN s.K (s.T (bt l 1)) (bt (l.drop 4) (1 + 2 * k)) ≤ 8 := by unfold srcN; omega
  exact ⟨h9.1, by omega⟩


/-- What Hear tells: an error's number and place. -/
def hearZ (s : Snd) (l : List Gf.F) : Int × Int :=
  match parseE s.K s.N s.S l with
  | some (c, k) => ((c : Int), (k : Int))
  | none => if s.os.length ≤ bt l 1 then (6, 1) else if lenOf l ≠ (oat s.os (bt l 1)).l.length then (6, 2) else if bt l 0 = 1 then (5, 0) else (0, -1)
/-- What becomes of the sender. -/
def hearS (s : Snd) (l : List Gf.F) : Snd :=
  match parseE s.K s.N s.S l with
  | some _ => s
  | none => if s.os.length ≤ bt l 1 then s else if lenOf l ≠ (oat s.os (bt l 1)).l.length then s else if bt l 0 = 1 then s else s.askN (bt l 1) (l.drop 4) (bt (l.drop 4) 0)

/-- An error that says so. -/
def VSays (A : Nat → Addr) (w' : World) (v : Value) (z : Int × Int) : Prop :=
  (z = (0, -1) ∧ v = .nilIface) ∨ (∃ i : Nat, i < 8 ∧ z = ((i : Int) + 1, -1) ∧ v = E A (i + 1)) ∨ ∃ (i pb : Nat), i < 8 ∧ z.1 = (i : Int) + 1 ∧ v = .iface 166 (.pointer (some ⟨pb, 0, none⟩)) ∧ w'.heap[pb]? = some (.cells #[.int .i64 z.2, E A (i + 1)] 168 (0, 0))

theorem VSays.kept {A : Nat → Addr} {w w' : World} {v : Value} {z : Int × Int} (h : VSays A w v z) (hk : ∀ (pb : Nat) (cs : Array Value), w.heap[pb]? = some (Obj.cells cs 168 (0, 0)) → w'.heap[pb]? = w.heap[pb]?) : VSays A w' v z := by
  rcases h with h | h | ⟨i, pb, hi, h1, h3, h2⟩
  · exact .inl h
  · exact .inr (.inl h)
  · exact .inr (.inr ⟨i, pb, hi, h1, h3, (hk pb _ h2).trans h2⟩)
theorem VSays.below {A : Nat → Addr} {w w' : World} {v : Value} {z : Int × Int} (h : VSays A w v z) (hb : Below w.heap.size w w') : VSays A w' v z := h.kept (fun pb _ hp => hb.block pb (lt_of_block hp))
theorem Wr.says {A : Nat → Addr} {w w' : World} {v : Value} {z : Int} {i : Nat} (hi : i < 8) (h : Wr w w' v z (E A (i + 1))) : VSays A w' v ((i : Int) + 1, z) := by
  obtain ⟨pb, rfl, _, hblk⟩ := h
  exact .inr (.inr ⟨i, pb, hi, rfl, rfl, hblk⟩)

theorem HearGives.one {A : Nat → Addr} {s : Snd} {l : List Gf.F} {B sb : Nat} {w w' : World} {e : Ending} (h : HearGives A s l B sb w e w') (hS : SAt w B sb s) (ok : s.Ok) :
    ∃ v, e = .returned v ∧ VSays A w' v (hearZ s l) ∧ SAt w' B sb (hearS s l) ∧ (hearS s l).Ok ∧ But (s.foot sb) w w' ∧ ∀ b, (hearS s l).foot sb b ↔ s.foot sb b := by
  unfold HearGives at h
  unfold hearZ hearS
  have hbb : ∀ {w' : World}, Below w.heap.size w w' → But (s.foot sb) w w' := fun hb => Below.but hb _ (fun i hi q => absurd hi q)
  cases hp : parseE s.K s.N s.S l with
  | some ep =>
    obtain ⟨c, k⟩ := ep
    rw [hp] at h
    obtain ⟨v, rfl, hw, hb⟩ := h
    obtain ⟨i, hi, rfl⟩ := parseE_code hp
    refine ⟨v, rfl, ?_, hS.above hb, ok, hbb hb, fun b => Iff.rfl⟩
    have := Wr.says (i := i) hi hw
    simpa using this
  | none =>
    rw [hp] at h
    simp only at h ⊢
    by_cases h1 : s.os.length ≤ bt l 1
    · rw [if_pos h1] at h ⊢
      rw [if_pos h1]
      obtain ⟨v, rfl, hw, hb⟩ := h
      exact ⟨v, rfl, Wr.says (i := 5) (by omega) hw, hS.above hb, ok, hbb hb, fun b => Iff.rfl⟩
    · rw [if_neg h1] at h ⊢
      rw [if_neg h1]
      by_cases h2 : lenOf l ≠ (oat s.os (bt l 1)).l.length
      · rw [if_pos h2] at h ⊢
        rw [if_pos h2]
        obtain ⟨v, rfl, hw, hb⟩ := h
        exact ⟨v, rfl, Wr.says (i := 5) (by omega) hw, hS.above hb, ok, hbb hb, fun b => Iff.rfl⟩
      · rw [if_neg h2] at h ⊢
        rw [if_neg h2]
        by_cases h3 : bt l 0 = 1
        · rw [if_pos h3] at h ⊢
          rw [if_pos h3]
          obtain ⟨v, rfl, hw, hb⟩ := h
          exact ⟨v, rfl, Wr.says (i := 4) (by omega) hw, hS.above hb, ok, hbb hb, fun b => Iff.rfl⟩
        · rw [if_neg h3] at h ⊢
          rw [if_neg h3]
          obtain ⟨rfl, hA, hbu⟩ := h
          have hi : bt l 1 < s.os.length := by omega
          refine ⟨_, rfl, .inl ⟨rfl, rfl⟩, hA, ?_, hbu, fun b => Snd.foot_askN hi _ sb b _⟩
          exact (Snd.askN_ok ok hi (Snd.asksQ ok hp (by simpa using h2) h3) _ (Nat.le_refl _)).1

end Go.Proofs.YtjabhnhejbhgjaaGreatDoor

/- An ask, read; what the sender is behind it. -/
namespace Go.Proofs.YtjabhnhejbhgjaaGreatDoor
open Go.RowKit

/-- What the lacks are. -/
theorem Kn.lks_mem (k : Kn) : ∀ n d, d ∈ k.lks n ↔ d.1 < n ∧ d.2 = k.lk d.1 ∧ 0 < d.2
  | 0, d => by simp [Kn.lks]
  | n + 1, d => by
    unfold Kn.lks
    have ih := k.lks_mem n d
    split
    · rename_i h
      rw [List.mem_append, ih, List.mem_singleton]
      constructor
      · rintro (⟨h1, h2, h3⟩ | rfl)
        · exact ⟨by omega, h2, h3⟩
        · exact ⟨Nat.lt_succ_self n, rfl, h⟩
      · rintro ⟨h1, h2, h3⟩
        by_cases e : d.1 = n
        · exact .inr (by obtain ⟨a, b⟩ := d; simp only at e h2; subst e; rw [h2])
        · exact .inl ⟨by omega, h2, h3⟩
    · rename_i h
      rw [ih]
      constructor
      · rintro ⟨h1, h2, h3⟩; exact ⟨by omega, h2, h3⟩
      · rintro ⟨h1, h2, h3⟩
        refine ⟨?_, h2, h3⟩
        by_cases e : d.1 = n
        · rw [e] at h2; omega
        · omega
theorem Kn.lks_sorted (k : Kn) : ∀ n, (k.lks n).Pairwise (fun a b => a.1 < b.1)
  | 0 => List.Pairwise.nil
  | n + 1 => by
    unfold Kn.lks
    split
    · refine List.pairwise_append.2 ⟨k.lks_sorted n, List.pairwise_singleton _ _, fun a ha b hb => ?_⟩
      rw [List.mem_singleton.1 hb]
      exact ((k.lks_mem n a).1 ha).1
    · exact k.lks_sorted n

/-- Pairs of bytes. -/
def pairs (ds : List (Nat × Nat)) : List Gf.F := ds.flatMap fun d => [by8 d.1, by8 d.2]
theorem pairs_cons (d : Nat × Nat) (ds : List (Nat × Nat)) : pairs (d :: ds) = by8 d.1 :: by8 d.2 :: pairs ds := rfl
theorem pairs_len : ∀ ds, (pairs ds).length = 2 * ds.length
  | [] => rfl
  | d :: ds => by rw [pairs_cons]; simp only [List.length_cons]; rw [pairs_len ds]; omega
theorem pairs_at : ∀ (ds : List (Nat × Nat)) (j : Nat), j < ds.length → at_ (pairs ds) (2 * j) = by8 (dat ds j).1 ∧ at_ (pairs ds) (2 * j + 1) = by8 (dat ds j).2
  | [], j, h => by simp at h
  | d :: ds, 0, _ => ⟨rfl, rfl⟩
  | d :: ds, j + 1, h => by
    rw [pairs_cons, show 2 * (j + 1) = 2 * j + 1 + 1 by omega]
    exact pairs_at ds j (by simpa using h)
theorem body_bt {M : Nat} {ds : List (Nat × Nat)} (hd : ∀ d ∈ ds, d.1 < 256 ∧ d.2 < 256) {j : Nat} (hj : j < ds.length) : bt (by8 M :: pairs ds) (1 + 2 * j) = (dat ds j).1 ∧ bt (by8 M :: pairs ds) (1 + 2 * j + 1) = (dat ds j).2 := by
  obtain ⟨h1, h2⟩ := pairs_at ds j hj
  have hm : dat ds j ∈ ds := List.mem_of_getElem? (dat_some hj)
  obtain ⟨b1, b2⟩ := hd _ hm
  have e1 : at_ (by8 M :: pairs ds) (1 + 2 * j) = at_ (pairs ds) (2 * j) := by rw [Nat.add_comm]; rfl
  have e2 : at_ (by8 M :: pairs ds) (1 + 2 * j + 1) = at_ (pairs ds) (2 * j + 1) := by rw [show 1 + 2 * j + 1 = (2 * j + 1) + 1 by omega]; rfl
  unfold bt
  rw [e1, e2, h1, h2, by8_nat b1, by8_nat b2]
  exact ⟨rfl, rfl⟩

theorem asks_none {K T M : Nat} {ds : List (Nat × Nat)} (hd : ∀ d ∈ ds, d.1 < 256 ∧ d.2 < 256) (hv : ∀ d ∈ ds, d.1 < partsN T K ∧ 1 ≤ d.2 ∧ d.2 ≤ srcN K T d.1) (hs : ds.Pairwise (fun a b => a.1 < b.1)) :
    ∀ r i least, i + r = ds.length → (i < ds.length → least ≤ (dat ds i).1) → asksFrom K T (by8 M :: pairs ds) r i least = none
  | 0, i, least, h, _ => by
    unfold asksFrom
    rw [if_neg]
    simp only [List.length_cons, pairs_len]
    omega
  | r + 1, i, least, h, hl => by
    have hi : i < ds.length := by omega
    obtain ⟨b1, b2⟩ := body_bt (M := M) hd hi
    have hm : dat ds i ∈ ds := List.mem_of_getElem? (dat_some hi)
    obtain ⟨v1, v2, v3⟩ := hv _ hm
    have hL : (by8 M :: pairs ds).length = 1 + 2 * ds.length := by simp only [List.length_cons, pairs_len]; omega
    have hk : lackB K T (by8 M :: pairs ds) (1 + 2 * i) least = none := by
      unfold lackB
      rw [hL, b1, b2, if_neg (by omega), if_neg, if_neg (by omega), if_neg]
      · rw [manyB_yes ⟨v2, v3⟩]; simp
      · unfold blkB
        rw [winB_yes (by omega) (by omega), decide_eq_true (hl hi)]; simp
    unfold asksFrom
    rw [hk]
    show asksFrom K T _ r (i + 1) _ = none
    refine asks_none hd hv hs r (i + 1) _ (by omega) (fun hi1 => ?_)
    rw [b1]
    have e1 : dat ds i = ds[i] := by simp [dat, List.getD, hi]
    have e2 : dat ds (i + 1) = ds[i + 1] := by simp [dat, List.getD, hi1]
    rw [e1, e2]
    exact (List.pairwise_iff_getElem.1 hs) i (i + 1) hi hi1 (by omega)

/-- The ask for what is lacking of an object is a packet. -/
theorem ask_reads {k : Kn} {m : Nat} (ok : k.Ok) (hm : m < 16) (hw : ¬ k.whole) :
    parseE k.K k.N k.S (askOf m k.len (k.lks k.ts.length)) = none ∧ bt (askOf m k.len (k.lks k.ts.length)) 0 = 2 ∧ bt (askOf m k.len (k.lks k.ts.length)) 1 = m ∧ lenOf (askOf m k.len (k.lks k.ts.length)) = k.len ∧
    (askOf m k.len (k.lks k.ts.length)).drop 4 = by8 (k.lks k.ts.length).length :: pairs (k.lks k.ts.length) ∧ bt ((askOf m k.len (k.lks k.ts.length)).drop 4) 0 = (k.lks k.ts.length).length ∧ (∀ d ∈ k.lks k.ts.length, d.1 < 256 ∧ d.2 < 256) := by
  obtain ⟨k1, k8, kn, n16, s1, s8⟩ := ok.cfg
  have hlen := ok.len
  have hTr := symN_range (S := k.S) (len := k.len) s1
  have hTe : k.T = symN k.S k.len := rfl
  have hT255 : k.T ≤ 255 := by have := partsN_le (a := k.len) s1; rw [hTe]; unfold symN; omega
  have hQl := partsN_le (a := k.T) k1
  have hbl := ok.blocks
  have hle := k.lks_le k.ts.length
  have hmem := k.lks_mem k.ts.length
  have hne : (k.lks k.ts.length).length ≠ 0 := fun z => hw ((Kn.whole_iff ok).1 z)
  have hsr := k.lks_sorted k.ts.length
  have hlk : ∀ i, k.lk i ≤ srcN k.K k.T i := fun i => by unfold Kn.lk; omega
  have hs8 : ∀ i, srcN k.K k.T i ≤ 8 := fun i => by unfold srcN; omega
  generalize k.lks k.ts.length = ds at *
  generalize k.ts.length = Q at *
  have hv : ∀ d ∈ ds, d.1 < partsN k.T k.K ∧ 1 ≤ d.2 ∧ d.2 ≤ srcN k.K k.T d.1 := fun d h => by
    obtain ⟨h1, h2, h3⟩ := (hmem d).1 h
    have := hlk d.1
    exact ⟨by omega, h3, by omega⟩
  have hd : ∀ d ∈ ds, d.1 < 256 ∧ d.2 < 256 := fun d h => by
    obtain ⟨h1, h2, h3⟩ := hv d h
    have := hs8 d.1
    exact ⟨by omega, by omega⟩
  have e4 : (askOf m k.len ds).drop 4 = by8 ds.length :: pairs ds := rfl
  have e0 : bt (askOf m k.len ds) 0 = 2 := rfl
  have e1 : bt (askOf m k.len ds) 1 = m := by show (by8 m).toNat = m; exact by8_nat (by omega)
  have e2 : bt (askOf m k.len ds) 2 = 0 := by show (by8 (k.len / 256)).toNat = 0; rw [by8_nat (by omega)]; omega
  have e3 : bt (askOf m k.len ds) 3 = k.len := by show (by8 k.len).toNat = k.len; exact by8_nat (by omega)
  have e5 : bt (by8 ds.length :: pairs ds) 0 = ds.length := by show (by8 ds.length).toNat = _; exact by8_nat (by omega)
  have hl : lenOf (askOf m k.len ds) = k.len := by unfold lenOf; rw [e2, e3]; omega
  refine ⟨?_, e0, e1, hl, e4, by rw [e4]; exact e5, hd⟩
  have hL : (askOf m k.len ds).length = 5 + 2 * ds.length := by
    show ([by8 2, by8 m, by8 (k.len / 256), by8 k.len] ++ [by8 ds.length] ++ pairs ds).length = _
    simp [pairs_len]
    omega
  have hh : headE (askOf m k.len ds) = none := by
    unfold headE
    rw [hL, e0, e1, e2, e3, if_neg (by omega), if_neg (by decide), if_neg (by omega), if_neg (by simp [objB]; omega), if_neg (by omega), if_neg (by simp [lenB]; omega)]
  unfold parseE
  rw [hh]
  simp only [e0, hl, e4]
  rw [if_neg (by decide), Option.map_eq_none_iff]
  unfold asksB
  have hL2 : (by8 ds.length :: pairs ds).length = 1 + 2 * ds.length := by simp only [List.length_cons, pairs_len]; omega
  rw [hL2, e5, if_neg (by omega), if_neg, ← hTe]
  · exact asks_none hd hv hsr _ 0 0 (by omega) (fun _ => Nat.zero_le _)
  · rw [← hTe, manyB_yes ⟨by omega, by omega⟩]; simp

end Go.Proofs.YtjabhnhejbhgjaaGreatDoor

/- Whose the blocks are; what is no one's stays. -/
namespace Go.Proofs.YtjabhnhejbhgjaaGreatDoor
open Go.RowKit

/-- Whose the new blocks are. -/
def ownN (own : Nat → Nat) (n k : Nat) (b : Nat) : Nat := if b < n then own b else k
theorem ownN_old {own : Nat → Nat} {n k b : Nat} (h : b < n) : ownN own n k b = own b := if_pos h
theorem ownN_new {own : Nat → Nat} {n k b : Nat} (h : n ≤ b) : ownN own n k b = k := if_neg (by omega)

/-- What is no one's stays. -/
structure Fr (own : Nat → Nat) (w : World) (own' : Nat → Nat) (w' : World) : Prop where
  os : w'.os = w.os
  tape : w'.tape = w.tape
  output : w'.output = w.output
  size : w.heap.size ≤ w'.heap.size
  keep : ∀ b, b < w.heap.size → own b = 1 → own' b = 1 ∧ w'.heap[b]? = w.heap[b]?
theorem Fr.refl (own : Nat → Nat) (w : World) : Fr own w own w := ⟨rfl, rfl, rfl, Nat.le_refl _, fun _ _ h => ⟨h, rfl⟩⟩
theorem Fr.trans {o1 o2 o3 : Nat → Nat} {w1 w2 w3 : World} (h : Fr o1 w1 o2 w2) (k : Fr o2 w2 o3 w3) : Fr o1 w1 o3 w3 :=
  ⟨k.os.trans h.os, k.tape.trans h.tape, k.output.trans h.output, Nat.le_trans h.size k.size, fun b hb h1 => by
    obtain ⟨q1, q2⟩ := h.keep b hb h1
    obtain ⟨q3, q4⟩ := k.keep b (Nat.lt_of_lt_of_le hb h.size) q1
    exact ⟨q3, q4.trans q2⟩⟩
theorem Fr.but {own : Nat → Nat} {S : Nat → Prop} {w w' : World} {k : Nat} (hb : But S w w') (hS : ∀ b, b < w.heap.size → S b → own b ≠ 1) : Fr own w (ownN own w.heap.size k) w' :=
  ⟨hb.os, hb.tape, hb.output, hb.size, fun b hlt h1 => ⟨by rw [ownN_old hlt]; exact h1, hb.block b hlt (fun q => hS b hlt q h1)⟩⟩

theorem Fr.above {own : Nat → Nat} {w w' : World} (k : Nat) (hbe : Below w.heap.size w w') : Fr own w (ownN own w.heap.size k) w' :=
  ⟨hbe.os, hbe.tape, hbe.output, hbe.size, fun b hlt h1 => ⟨by rw [ownN_old hlt]; exact h1, hbe.block b hlt⟩⟩

end Go.Proofs.YtjabhnhejbhgjaaGreatDoor

/- The net of the statements in memory: a sender, its objects, receivers, packets on their way. -/
namespace Go.Proofs.YtjabhnhejbhgjaaGreatDoor
open Go.RowKit

theorem SAt.lowerB {w : World} {B B' sb : Nat} {s : Snd} (h : SAt w B sb s) (hB : B' ≤ B) : SAt w B' sb s :=
  ⟨Nat.le_trans hB h.low, h.blk, own_base2 h.own hB, fun i hi => own_base2 (h.bytes i hi) hB, fun i hi => ⟨Nat.le_trans hB (h.debts i hi).1, (h.debts i hi).2⟩, h.apart⟩
theorem KAt.lowerB {w : World} {B B' kb : Nat} {k : Kn} (h : KAt w B kb k) (hB : B' ≤ B) : KAt w B' kb k :=
  ⟨Nat.le_trans hB h.low, h.blk, Nat.le_trans hB h.low2, h.row, fun i hi => own_base2 (h.places i hi) hB, fun i hi => own_base2 (h.syms i hi) hB, fun i hi r hr => ⟨Nat.le_trans hB (h.bytes i hi r hr).1, own_base2 (h.bytes i hi r hr).2 hB⟩, h.apartP, h.apartS, h.apartR⟩
theorem RcAt.lowerB {w : World} {B B' rb : Nat} {r : Rcv} (h : RcAt w B rb r) (hB : B' ≤ B) : RcAt w B' rb r :=
  ⟨⟨Nat.le_trans hB h.low.1, Nat.le_trans hB h.low.2.1, Nat.le_trans hB h.low.2.2⟩, h.blk, h.chan, h.map, own_base2 h.own hB, fun u hu => ⟨Nat.le_trans hB (h.objs u hu).1, (h.objs u hu).2⟩, fun m kb k hm he => (h.known m kb k hm he).lowerB hB, h.apart, h.apartU⟩

/-- Bytes in memory that no one writes. -/
structure Sl where
  a : Option Addr
  b : Nat
  o : Nat
  c : Nat
  l : List Gf.F
def Sl.val (x : Sl) : Value := .slice x.a x.l.length x.c
structure Sl.At (x : Sl) (own : Nat → Nat) (w : World) : Prop where
  cap : x.l.length ≤ x.c
  max : x.c ≤ 9223372036854775807
  few : x.l.length ≤ 140737488355328
  ptr : x.a = some ⟨x.b, x.o, none⟩ ∨ x.a = none ∧ x.l.length = 0 ∧ x.c = 0
  bs : Bs w x.b x.o x.l
  lt : 0 < x.l.length → x.b < w.heap.size ∧ own x.b = 1
theorem Sl.At.at_ {x : Sl} {own : Nat → Nat} {w : World} (h : x.At own w) (h0 : 0 < x.l.length) : x.a = some ⟨x.b, x.o, none⟩ := by
  rcases h.ptr with q | ⟨_, q, _⟩
  · exact q
  · omega
theorem Sl.At.fr {x : Sl} {own own' : Nat → Nat} {w w' : World} (h : x.At own w) (hf : Fr own w own' w') : x.At own' w' := by
  refine ⟨h.cap, h.max, h.few, h.ptr, fun i hi => ?_, fun h0 => ?_⟩
  · obtain ⟨h1, h2⟩ := h.lt (by omega)
    have hc : w'.cell? ⟨x.b, x.o + i, none⟩ = w.cell? ⟨x.b, x.o + i, none⟩ := World.cell?_of_block (w := w) (a := ⟨x.b, x.o + i, none⟩) (hf.keep _ h1 h2).2
    rw [hc]
    exact h.bs i hi
  · obtain ⟨h1, h2⟩ := h.lt h0
    exact ⟨Nat.lt_of_lt_of_le h1 hf.size, (hf.keep _ h1 h2).1⟩
/-- A row of one's own. -/
theorem Sl.of_own {own : Nat → Nat} {w : World} {B n : Nat} {v : Value} {l : List Gf.F} (h : w.ownsRow B 5 1 v n (encL l)) (hl : l.length = n) (hf : n ≤ 140737488355328) (ho : ∀ b, v.ownBlock = some b → own b = 1) : ∃ x : Sl, x.val = v ∧ x.l = l ∧ x.At own w := by
  have h' := h
  rcases h.2 with ⟨h1, h2⟩ | ⟨g, cap, cur, h1, _, h3, h4, h5, _⟩
  · refine ⟨⟨none, 0, 0, 0, l⟩, by rw [h1]; unfold Sl.val; rw [hl, h2], rfl, by show l.length ≤ 0; omega, by show 0 ≤ _; omega, by show l.length ≤ _; omega, .inr ⟨rfl, by show l.length = 0; omega, rfl⟩, fun i hi => ?_, fun h0 => ?_⟩
    · change i < l.length at hi; omega
    · change 0 < l.length at h0; omega
  · subst h1
    refine ⟨⟨some ⟨g, 0, none⟩, g, 0, cap, l⟩, by unfold Sl.val; rw [hl], rfl, by show l.length ≤ cap; omega, by show cap ≤ _; unfold maxLen at h5; omega, by show l.length ≤ _; omega, .inl rfl, own_bs h' hl, fun _ => ⟨lt_of_block h3, ho g rfl⟩⟩

structure Nt where
  K : Nat
  N : Nat
  S : Nat
  s : Snd
  sb : Nat
  rs : List (Nat × Rcv)
  vr : Value
  obs : List Sl
  vo : Value
  air : List Sl
  va : Value
  tks : List (Nat × List Bool)
  vt : Value
def rcat (rs : List (Nat × Rcv)) (i : Nat) : Nat × Rcv := rs.getD i (0, rcv0 0 0 0 0 0)
def tkat (ts : List (Nat × List Bool)) (i : Nat) : Nat × List Bool := ts.getD i (0, [])
def slat (xs : List Sl) (i : Nat) : Sl := xs.getD i ⟨none, 0, 0, 0, []⟩
theorem rcat_some {rs : List (Nat × Rcv)} {i : Nat} (h : i < rs.length) : rs[i]? = some (rcat rs i) := by simp [rcat, List.getD, h]
theorem tkat_some {ts : List (Nat × List Bool)} {i : Nat} (h : i < ts.length) : ts[i]? = some (tkat ts i) := by simp [tkat, List.getD, h]
theorem slat_some {xs : List Sl} {i : Nat} (h : i < xs.length) : xs[i]? = some (slat xs i) := by simp [slat, List.getD, h]
theorem slat_mem {xs : List Sl} {i : Nat} (h : i < xs.length) : slat xs i ∈ xs := List.mem_of_getElem? (slat_some h)
theorem rcat_set {rs : List (Nat × Rcv)} {i : Nat} (hi : i < rs.length) (p : Nat × Rcv) (j : Nat) : rcat (rs.set i p) j = if i = j then p else rcat rs j := by
  unfold rcat
  rw [List.getD_eq_getElem?_getD, List.getD_eq_getElem?_getD, List.getElem?_set]
  split
  · rename_i e; subst e; simp
  · rfl
theorem tkat_set {ts : List (Nat × List Bool)} {i : Nat} (hi : i < ts.length) (p : Nat × List Bool) (j : Nat) : tkat (ts.set i p) j = if i = j then p else tkat ts j := by
  unfold tkat
  rw [List.getD_eq_getElem?_getD, List.getD_eq_getElem?_getD, List.getElem?_set]
  split
  · rename_i e; subst e; simp
  · rfl
def rcVals (rs : List (Nat × Rcv)) : List Value := rs.map fun p => .pointer (some ⟨p.1, 0, none⟩)
def tkVals (ts : List (Nat × List Bool)) : List Value := ts.map fun p => .slice (some ⟨p.1, 0, none⟩) 16 16
def slVals (xs : List Sl) : List Value := xs.map Sl.val
def boolCells (l : List Bool) : Array Value := (l.map Value.bool).toArray
theorem rcVals_set {rs : List (Nat × Rcv)} {i : Nat} (hi : i < rs.length) (r : Rcv) : rcVals (rs.set i ((rcat rs i).1, r)) = rcVals rs := by
  unfold rcVals
  refine List.ext_getElem? (fun j => ?_)
  rw [List.getElem?_map, List.getElem?_map, List.getElem?_set]
  split
  · rename_i e; subst e
    rw [rcat_some hi]
    simp
  · rfl
theorem tkVals_set {ts : List (Nat × List Bool)} {i : Nat} (hi : i < ts.length) (l : List Bool) : tkVals (ts.set i ((tkat ts i).1, l)) = tkVals ts := by
  unfold tkVals
  refine List.ext_getElem? (fun j => ?_)
  rw [List.getElem?_map, List.getElem?_map, List.getElem?_set]
  split
  · rename_i e; subst e
    rw [tkat_some hi]
    simp
  · rfl

/-- The net at nb. own says whose a block is: 0 the net's own, 1 no one's, 2 the sender's, 3 to 6 the lists', 10 + 2i what the i-th receiver took, 11 + 2i the i-th receiver's. -/
structure NI (A : Nat → Addr) (B0 B : Nat) (own : Nat → Nat) (w : World) (nb : Nat) (st : Nt) : Prop where
  errs : Errs A B0 w
  typ : ErrType w
  typLow : 8 < B
  low : B0 ≤ B
  lowN : B ≤ nb
  blk : w.heap[nb]? = some (.cells #[.int .i64 (st.K : Int), .int .i64 (st.N : Int), .int .i64 (st.S : Int), .pointer (some ⟨st.sb, 0, none⟩), st.vr, st.vo, st.va, st.vt] 43 (0, 0))
  rown : w.ownsRow B 47 1 st.vr st.rs.length (rcVals st.rs)
  oown : w.ownsRow B 33 1 st.vo st.obs.length (slVals st.obs)
  aown : w.ownsRow B 33 1 st.va st.air.length (slVals st.air)
  town : w.ownsRow B 55 1 st.vt st.tks.length (tkVals st.tks)
  tblk : ∀ i, i < st.tks.length → w.heap[(tkat st.tks i).1]? = some (.cells (boolCells (tkat st.tks i).2) 4 (0, 0)) ∧ (tkat st.tks i).2.length = 16
  lens : st.tks.length = st.rs.length
  snd : SAt w B st.sb st.s
  sok : st.s.Ok
  rcv : ∀ i, i < st.rs.length → RcAt w B (rcat st.rs i).1 (rcat st.rs i).2
  rok : ∀ i, i < st.rs.length → (rcat st.rs i).2.Ok
  obsAt : ∀ x ∈ st.obs, x.At own w
  airAt : ∀ x ∈ st.air, x.At own w
  oF : ∀ b, b < B → own b = 1
  oN : own nb = 0
  oR : ∀ b, st.vr.ownBlock = some b → own b = 3
  oO : ∀ b, st.vo.ownBlock = some b → own b = 4
  oA : ∀ b, st.va.ownBlock = some b → own b = 5
  oT : ∀ b, st.vt.ownBlock = some b → own b = 6
  oTb : ∀ i, i < st.tks.length → own (tkat st.tks i).1 = 10 + 2 * i
  oS : ∀ b, st.s.foot st.sb b → own b = 2
  oRc : ∀ i b, i < st.rs.length → (rcat st.rs i).2.foot (rcat st.rs i).1 b → own b = 11 + 2 * i

section
variable {A : Nat → Addr} {B0 B : Nat} {own : Nat → Nat} {w w' : World} {nb : Nat} {st : Nt}

/-- What is kept by a step that writes into blocks of some owners, and gives new blocks to owner k. -/
structure NK (A : Nat → Addr) (B0 B : Nat) (own own' : Nat → Nat) (w w' : World) (nb : Nat) (st : Nt) (P : Nat → Prop) : Prop where
  fr : Fr own w own' w'
  errs : Errs A B0 w'
  typ : ErrType w'
  blk : ¬ P 0 → w'.heap[nb]? = w.heap[nb]?
  rown : ¬ P 3 → w'.ownsRow B 47 1 st.vr st.rs.length (rcVals st.rs)
  oown : ¬ P 4 → w'.ownsRow B 33 1 st.vo st.obs.length (slVals st.obs)
  aown : ¬ P 5 → w'.ownsRow B 33 1 st.va st.air.length (slVals st.air)
  town : ¬ P 6 → w'.ownsRow B 55 1 st.vt st.tks.length (tkVals st.tks)
  tblk : ∀ i, i < st.tks.length → ¬ P (10 + 2 * i) → w'.heap[(tkat st.tks i).1]? = some (.cells (boolCells (tkat st.tks i).2) 4 (0, 0)) ∧ (tkat st.tks i).2.length = 16
  snd : ¬ P 2 → SAt w' B st.sb st.s
  rcv : ∀ i, i < st.rs.length → ¬ P (11 + 2 * i) → RcAt w' B (rcat st.rs i).1 (rcat st.rs i).2
  obsAt : ∀ x ∈ st.obs, x.At own' w'
  airAt : ∀ x ∈ st.air, x.At own' w'
  oF : ∀ b, b < B → own' b = 1
  oN : own' nb = 0
  oR : ∀ b, st.vr.ownBlock = some b → own' b = 3
  oO : ∀ b, st.vo.ownBlock = some b → own' b = 4
  oA : ∀ b, st.va.ownBlock = some b → own' b = 5
  oT : ∀ b, st.vt.ownBlock = some b → own' b = 6
  oTb : ∀ i, i < st.tks.length → own' (tkat st.tks i).1 = 10 + 2 * i
  oS : ∀ b, st.s.foot st.sb b → own' b = 2
  oRc : ∀ i b, i < st.rs.length → (rcat st.rs i).2.foot (rcat st.rs i).1 b → own' b = 11 + 2 * i

theorem NI.ltN (h : NI A B0 B own w nb st) : nb < w.heap.size := lt_of_block h.blk
theorem NI.leB (h : NI A B0 B own w nb st) : B ≤ w.heap.size := Nat.le_trans h.lowN (Nat.le_of_lt h.ltN)

theorem NI.keep (h : NI A B0 B own w nb st) {S P : Nat → Prop} (k : Nat) (hbu : But S w w') (hS : ∀ b, b < w.heap.size → S b → P (own b)) (h1 : ¬ P 1) : NK A B0 B own (ownN own w.heap.size k) w w' nb st P := by
  have hn : ∀ b j, b < w.heap.size → own b = j → ¬ P j → ¬ S b := fun b j hb e hp q => hp (e ▸ hS b hb q)
  have hne1 : ∀ b, b < w.heap.size → S b → own b ≠ 1 := fun b hb q e => h1 (e ▸ hS b hb q)
  have hfr : Fr own w (ownN own w.heap.size k) w' := Fr.but hbu hne1
  have hlo : Below B w w' := hbu.toBelow h.leB (fun b hb q => hne1 b (Nat.lt_of_lt_of_le hb h.leB) q (h.oF b hb))
  have hrl : ∀ i b, i < st.rs.length → (rcat st.rs i).2.foot (rcat st.rs i).1 b → b < w.heap.size := fun i b hi q => ((h.rcv i hi).foot_lt q).2
  have htl : ∀ i, i < st.tks.length → (tkat st.tks i).1 < w.heap.size := fun i hi => lt_of_block (h.tblk i hi).1
  refine ⟨hfr, h.errs.below (hlo.mono h.low), h.typ.below hlo h.typLow, fun hp => hbu.block nb h.ltN (hn nb 0 h.ltN h.oN hp),
    fun hp => hbu.own h.rown (fun g hg => hn g 3 (h.rown.lt g hg).2 (h.oR g hg) hp), fun hp => hbu.own h.oown (fun g hg => hn g 4 (h.oown.lt g hg).2 (h.oO g hg) hp), fun hp => hbu.own h.aown (fun g hg => hn g 5 (h.aown.lt g hg).2 (h.oA g hg) hp), fun hp => hbu.own h.town (fun g hg => hn g 6 (h.town.lt g hg).2 (h.oT g hg) hp),
    fun i hi hp => ⟨(hbu.block _ (htl i hi) (hn _ _ (htl i hi) (h.oTb i hi) hp)).trans (h.tblk i hi).1, (h.tblk i hi).2⟩,
    fun hp => h.snd.kept (fun b q => hbu.block b (h.snd.foot_lt q).2 (hn b 2 (h.snd.foot_lt q).2 (h.oS b q) hp)),
    fun i hi hp => (h.rcv i hi).kept (fun b q => hbu.block b (hrl i b hi q) (hn b _ (hrl i b hi q) (h.oRc i b hi q) hp)),
    fun x hx => (h.obsAt x hx).fr hfr, fun x hx => (h.airAt x hx).fr hfr,
    fun b hb => by rw [ownN_old (Nat.lt_of_lt_of_le hb h.leB)]; exact h.oF b hb, by rw [ownN_old h.ltN]; exact h.oN, fun b hg => by rw [ownN_old (h.rown.lt b hg).2]; exact h.oR b hg, fun b hg => by rw [ownN_old (h.oown.lt b hg).2]; exact h.oO b hg, fun b hg => by rw [ownN_old (h.aown.lt b hg).2]; exact h.oA b hg, fun b hg => by rw [ownN_old (h.town.lt b hg).2]; exact h.oT b hg,
    fun i hi => by rw [ownN_old (htl i hi)]; exact h.oTb i hi, fun b q => by rw [ownN_old (h.snd.foot_lt q).2]; exact h.oS b q, fun i b hi q => by rw [ownN_old (hrl i b hi q)]; exact h.oRc i b hi q⟩

/-- New blocks alone. -/
theorem NI.above (h : NI A B0 B own w nb st) (k : Nat) (hb : Below w.heap.size w w') : NI A B0 B (ownN own w.heap.size k) w' nb st ∧ Fr own w (ownN own w.heap.size k) w' := by
  have hk := h.keep (P := fun _ => False) k (Below.but hb (fun _ => False) (fun i hi q => absurd hi q)) (fun _ _ q => q) (fun q => q)
  exact ⟨⟨hk.errs, hk.typ, h.typLow, h.low, h.lowN, (hk.blk id).trans h.blk, hk.rown id, hk.oown id, hk.aown id, hk.town id, fun i hi => hk.tblk i hi id, h.lens, hk.snd id, h.sok, fun i hi => hk.rcv i hi id, h.rok, hk.obsAt, hk.airAt, hk.oF, hk.oN, hk.oR, hk.oO, hk.oA, hk.oT, hk.oTb, hk.oS, hk.oRc⟩, hk.fr⟩

/-- A step of the sender. -/
theorem NI.stepS (h : NI A B0 B own w nb st) {s' : Snd} (hbu : But (st.s.foot st.sb) w w') (hS : SAt w' B st.sb s') (ok : s'.Ok) (hf : ∀ b, s'.foot st.sb b → st.s.foot st.sb b ∨ w.heap.size ≤ b) :
    NI A B0 B (ownN own w.heap.size 2) w' nb { st with s := s' } ∧ Fr own w (ownN own w.heap.size 2) w' := by
  have hk := h.keep (P := fun k => k = 2) 2 hbu (fun b _ q => h.oS b q) (by omega)
  refine ⟨⟨hk.errs, hk.typ, h.typLow, h.low, h.lowN, (hk.blk (by omega)).trans h.blk, hk.rown (by omega), hk.oown (by omega), hk.aown (by omega), hk.town (by omega), fun i hi => hk.tblk i hi (by omega), h.lens, hS, ok, fun i hi => hk.rcv i hi (by omega), h.rok, hk.obsAt, hk.airAt, hk.oF, hk.oN, hk.oR, hk.oO, hk.oA, hk.oT, hk.oTb, fun b q => ?_, hk.oRc⟩, hk.fr⟩
  rcases hf b q with z | z
  · exact hk.oS b z
  · exact ownN_new z

/-- A step of the sender that keeps no new block. -/
theorem NI.stepS1 (h : NI A B0 B own w nb st) {s' : Snd} (hbu : But (st.s.foot st.sb) w w') (hS : SAt w' B st.sb s') (ok : s'.Ok) (hf : ∀ b, s'.foot st.sb b → st.s.foot st.sb b) :
    NI A B0 B (ownN own w.heap.size 1) w' nb { st with s := s' } ∧ Fr own w (ownN own w.heap.size 1) w' := by
  have hk := h.keep (P := fun k => k = 2) 1 hbu (fun b _ q => h.oS b q) (by omega)
  exact ⟨⟨hk.errs, hk.typ, h.typLow, h.low, h.lowN, (hk.blk (by omega)).trans h.blk, hk.rown (by omega), hk.oown (by omega), hk.aown (by omega), hk.town (by omega), fun i hi => hk.tblk i hi (by omega), h.lens, hS, ok, fun i hi => hk.rcv i hi (by omega), h.rok, hk.obsAt, hk.airAt, hk.oF, hk.oN, hk.oR, hk.oO, hk.oA, hk.oT, hk.oTb, fun b q => hk.oS b (hf b q), hk.oRc⟩, hk.fr⟩

/-- A step of the i-th receiver. -/
theorem NI.stepR (h : NI A B0 B own w nb st) {i : Nat} (hi : i < st.rs.length) {r' : Rcv} (hbu : But ((rcat st.rs i).2.foot (rcat st.rs i).1) w w') (hR : RcAt w' B (rcat st.rs i).1 r') (ok : r'.Ok) (hf : ∀ b, r'.foot (rcat st.rs i).1 b → (rcat st.rs i).2.foot (rcat st.rs i).1 b ∨ w.heap.size ≤ b) :
    NI A B0 B (ownN own w.heap.size (11 + 2 * i)) w' nb { st with rs := st.rs.set i ((rcat st.rs i).1, r') } ∧ Fr own w (ownN own w.heap.size (11 + 2 * i)) w' := by
  have hk := h.keep (P := fun k => k = 11 + 2 * i) (11 + 2 * i) hbu (fun b _ q => h.oRc i b hi q) (by omega)
  have hl : (st.rs.set i ((rcat st.rs i).1, r')).length = st.rs.length := by simp
  refine ⟨⟨hk.errs, hk.typ, h.typLow, h.low, h.lowN, (hk.blk (by omega)).trans h.blk, ?_, hk.oown (by omega), hk.aown (by omega), hk.town (by omega), fun j hj => hk.tblk j hj (by omega), ?_, hk.snd (by omega), h.sok, fun j hj => ?_, fun j hj => ?_, hk.obsAt, hk.airAt, hk.oF, hk.oN, hk.oR, hk.oO, hk.oA, hk.oT, hk.oTb, hk.oS, fun j b hj q => ?_⟩, hk.fr⟩
  · show w'.ownsRow B _ 1 st.vr (st.rs.set i _).length (rcVals (st.rs.set i _))
    rw [hl, rcVals_set hi]
    exact hk.rown (by omega)
  · show st.tks.length = (st.rs.set i _).length
    rw [hl]; exact h.lens
  · change j < (st.rs.set i _).length at hj
    rw [hl] at hj
    show RcAt w' B (rcat (st.rs.set i _) j).1 (rcat (st.rs.set i _) j).2
    rw [rcat_set hi]
    split
    · exact hR
    · rename_i e
      exact hk.rcv j hj (by omega)
  · change j < (st.rs.set i _).length at hj
    rw [hl] at hj
    show (rcat (st.rs.set i _) j).2.Ok
    rw [rcat_set hi]
    split
    · exact ok
    · exact h.rok j hj
  · change j < (st.rs.set i _).length at hj
    rw [hl] at hj
    change (rcat (st.rs.set i _) j).2.foot (rcat (st.rs.set i _) j).1 b at q
    rw [rcat_set hi] at q
    split at q
    · rename_i e
      subst e
      rcases hf b q with z | z
      · exact hk.oRc i b hi z
      · exact ownN_new z
    · exact hk.oRc j b hj q

/-- A step of the list of objects. -/
theorem NI.stepO (h : NI A B0 B own w nb st) {obs' : List Sl} {vo' : Value} (hbu : But (fun b => b = nb ∨ st.vo.ownBlock = some b) w w')
    (hblk : w'.heap[nb]? = some (.cells #[.int .i64 (st.K : Int), .int .i64 (st.N : Int), .int .i64 (st.S : Int), .pointer (some ⟨st.sb, 0, none⟩), st.vr, vo', st.va, st.vt] 43 (0, 0)))
    (ho : w'.ownsRow B 33 1 vo' obs'.length (slVals obs')) (hx : ∀ x ∈ obs', x.At own w) (hg : ∀ b, vo'.ownBlock = some b → st.vo.ownBlock = some b ∨ w.heap.size ≤ b) :
    NI A B0 B (ownN own w.heap.size 4) w' nb { st with obs := obs', vo := vo' } ∧ Fr own w (ownN own w.heap.size 4) w' := by
  have hk := h.keep (P := fun k => k = 0 ∨ k = 4) 4 hbu (fun b _ q => by
    rcases q with rfl | q
    · exact .inl h.oN
    · exact .inr (h.oO b q)) (by omega)
  refine ⟨⟨hk.errs, hk.typ, h.typLow, h.low, h.lowN, hblk, hk.rown (by omega), ho, hk.aown (by omega), hk.town (by omega), fun i hi => hk.tblk i hi (by omega), h.lens, hk.snd (by omega), h.sok, fun i hi => hk.rcv i hi (by omega), h.rok, fun x q => (hx x q).fr hk.fr, hk.airAt, hk.oF, hk.oN, hk.oR, fun b q => ?_, hk.oA, hk.oT, hk.oTb, hk.oS, hk.oRc⟩, hk.fr⟩
  rcases hg b q with z | z
  · exact hk.oO b z
  · exact ownN_new z

/-- A step of the list of packets on their way. -/
theorem NI.stepA (h : NI A B0 B own w nb st) {air' : List Sl} {va' : Value} (hbu : But (fun b => b = nb ∨ st.va.ownBlock = some b) w w')
    (hblk : w'.heap[nb]? = some (.cells #[.int .i64 (st.K : Int), .int .i64 (st.N : Int), .int .i64 (st.S : Int), .pointer (some ⟨st.sb, 0, none⟩), st.vr, st.vo, va', st.vt] 43 (0, 0)))
    (ho : w'.ownsRow B 33 1 va' air'.length (slVals air')) (hx : ∀ x ∈ air', x.At own w) (hg : ∀ b, va'.ownBlock = some b → st.va.ownBlock = some b ∨ w.heap.size ≤ b) :
    NI A B0 B (ownN own w.heap.size 5) w' nb { st with air := air', va := va' } ∧ Fr own w (ownN own w.heap.size 5) w' := by
  have hk := h.keep (P := fun k => k = 0 ∨ k = 5) 5 hbu (fun b _ q => by
    rcases q with rfl | q
    · exact .inl h.oN
    · exact .inr (h.oA b q)) (by omega)
  refine ⟨⟨hk.errs, hk.typ, h.typLow, h.low, h.lowN, hblk, hk.rown (by omega), hk.oown (by omega), ho, hk.town (by omega), fun i hi => hk.tblk i hi (by omega), h.lens, hk.snd (by omega), h.sok, fun i hi => hk.rcv i hi (by omega), h.rok, hk.obsAt, fun x q => (hx x q).fr hk.fr, hk.oF, hk.oN, hk.oR, hk.oO, fun b q => ?_, hk.oT, hk.oTb, hk.oS, hk.oRc⟩, hk.fr⟩
  rcases hg b q with z | z
  · exact hk.oA b z
  · exact ownN_new z

/-- What the i-th receiver took is marked. -/
theorem NI.stepT (h : NI A B0 B own w nb st) {i : Nat} (hi : i < st.tks.length) {l' : List Bool} (hbu : But (fun b => b = (tkat st.tks i).1) w w') (hT : w'.heap[(tkat st.tks i).1]? = some (.cells (boolCells l') 4 (0, 0))) (hl' : l'.length = 16) :
    NI A B0 B (ownN own w.heap.size 1) w' nb { st with tks := st.tks.set i ((tkat st.tks i).1, l') } ∧ Fr own w (ownN own w.heap.size 1) w' := by
  have hk := h.keep (P := fun k => k = 10 + 2 * i) 1 hbu (fun b _ q => by rw [q]; exact h.oTb i hi) (by omega)
  have hl : (st.tks.set i ((tkat st.tks i).1, l')).length = st.tks.length := by simp
  refine ⟨⟨hk.errs, hk.typ, h.typLow, h.low, h.lowN, (hk.blk (by omega)).trans h.blk, hk.rown (by omega), hk.oown (by omega), hk.aown (by omega), ?_, fun j hj => ?_, ?_, hk.snd (by omega), h.sok, fun j hj => hk.rcv j hj (by omega), h.rok, hk.obsAt, hk.airAt, hk.oF, hk.oN, hk.oR, hk.oO, hk.oA, hk.oT, fun j hj => ?_, hk.oS, hk.oRc⟩, hk.fr⟩
  · show w'.ownsRow B _ 1 st.vt (st.tks.set i _).length (tkVals (st.tks.set i _))
    rw [hl, tkVals_set hi]
    exact hk.town (by omega)
  · change j < (st.tks.set i _).length at hj
    rw [hl] at hj
    show w'.heap[(tkat (st.tks.set i _) j).1]? = some (.cells (boolCells (tkat (st.tks.set i _) j).2) _ _) ∧ (tkat (st.tks.set i _) j).2.length = 16
    rw [tkat_set hi]
    split
    · exact ⟨hT, hl'⟩
    · rename_i e
      exact hk.tblk j hj (by omega)
  · show (st.tks.set i _).length = st.rs.length
    rw [hl]; exact h.lens
  · change j < (st.tks.set i _).length at hj
    rw [hl] at hj
    show ownN own w.heap.size 1 (tkat (st.tks.set i _) j).1 = _
    rw [tkat_set hi]
    split
    · rename_i e
      subst e
      exact hk.oTb i hi
    · exact hk.oTb j hj

theorem NI.cells (h : NI A B0 B own w nb st) : w.cell? ⟨nb, 0, none⟩ = some (.int .i64 (st.K : Int)) ∧ w.cell? ⟨nb, 1, none⟩ = some (.int .i64 (st.N : Int)) ∧ w.cell? ⟨nb, 2, none⟩ = some (.int .i64 (st.S : Int)) ∧ w.cell? ⟨nb, 3, none⟩ = some (.pointer (some ⟨st.sb, 0, none⟩)) ∧ w.cell? ⟨nb, 4, none⟩ = some st.vr ∧ w.cell? ⟨nb, 5, none⟩ = some st.vo ∧ w.cell? ⟨nb, 6, none⟩ = some st.va ∧ w.cell? ⟨nb, 7, none⟩ = some st.vt :=
  ⟨cell_of_row w _ 0 _ _ _ h.blk, cell_of_row w _ 1 _ _ _ h.blk, cell_of_row w _ 2 _ _ _ h.blk, cell_of_row w _ 3 _ _ _ h.blk, cell_of_row w _ 4 _ _ _ h.blk, cell_of_row w _ 5 _ _ _ h.blk, cell_of_row w _ 6 _ _ _ h.blk, cell_of_row w _ 7 _ _ _ h.blk⟩

end

end Go.Proofs.YtjabhnhejbhgjaaGreatDoor
