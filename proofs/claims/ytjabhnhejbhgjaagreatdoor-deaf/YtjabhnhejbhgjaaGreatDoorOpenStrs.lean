/- Strings as they came in as an argument. -/
import Derived.Test.YtjabhnhejbhgjaaGreatDoorNetPlain
import Derived.Test.YtjabhnhejbhgjaaGreatDoorMany18
import Derived.SizedLaws
import Derived.SliceStrings
import Derived.ChangeMaps5
namespace Go.Proofs.YtjabhnhejbhgjaaGreatDoor
open Go.ChangeShapes Go.WideShapes Go.ChangeAt Go.RowKit

theorem st_plain {w : World} {x : Addr} {v : Value} (h : w.cell? (x.add 0) = some v) : x = ⟨x.block, x.off, none⟩ := by
  obtain ⟨b, off, spot⟩ := x
  have hspot : spot = none := by simpa [Addr.add] using World.cell?_spot h
  subst hspot
  rfl
theorem st_add (b o i : Nat) : (⟨b, o, none⟩ : Addr).add i = ⟨b, o + i, none⟩ := by unfold Addr.add; split <;> simp_all
theorem st_wf {z : Int} (h : (Lit.int .i64 z).wf = true) : In64 z := by
  simp [Lit.wf, IntKind.min, IntKind.max, IntKind.signed, IntKind.bits] at h
  unfold In64
  omega
theorem Tryz.cellsStrS : Tryz.prog.cellsOf 9 = 1 := by kernel_rfl
theorem Tryz.bytesStrS : Tryz.prog.bytesOf 9 = 16 := by kernel_rfl

theorem came_strs {H : Type} {enc : TypeId × Value → H} {W : World} {a0 : Option Addr} {l0 c0 : Nat} {d : DataW H} {ps : List MemPlace} (h : DataW.Trod enc Tryz.prog W 0 (fun _ => true) true 51 (.slice a0 l0 c0) d ps) (hsz : ∀ elems spare, d = .slice elems spare → (elems.length + spare.length) * 16 ≤ reachBytes) :
    ∃ lb lo ss, StrsAt (fun _ => 1) W lb lo ss ∧ ss.length = l0 ∧ l0 ≤ 140737488355328 ∧ (0 < l0 → a0 = some ⟨lb, lo, none⟩) ∧ (∃ zs : List ByteArray, (l0 = 0 ∨ d = .slice (strs (zs.take l0)) (strs (zs.drop l0))) ∧ ss = zs.take l0) := by
  obtain ⟨fuel, hf⟩ := h
  rcases open_strings Tryz.underlying51 Tryz.underlying9 Tryz.cellsStrS hf with ⟨hcs, _⟩ | ⟨x, l, c, ss, hcs, _, hl, hm, hz, hx, hcell, _⟩
  · simp [Value.cells] at hcs
    obtain ⟨rfl, rfl, rfl⟩ := hcs
    exact ⟨0, 0, [], ⟨fun i hi => by simp at hi, fun h => by simp at h⟩, rfl, by omega, fun h => by omega, [], .inl rfl, rfl⟩
  · simp [Value.cells] at hcs
    obtain ⟨rfl, rfl, rfl⟩ := hcs
    simp only [Prod.mk.injEq] at hx
    obtain ⟨hd, _⟩ := hx
    have h4 := hsz _ _ hd
    simp only [if_true] at hz
    simp only [strs, List.length_map, List.length_take, List.length_drop, reachBytes] at h4
    by_cases h0 : l0 = 0
    · subst h0
      exact ⟨0, 0, [], ⟨fun i hi => by simp at hi, fun h => by simp at h⟩, rfl, by omega, fun h => by omega, [], .inl rfl, rfl⟩
    have hap : x = ⟨x.block, x.off, none⟩ := st_plain (hcell 0 (by omega))
    have hcc : ∀ i, i < ss.length → W.cell? ⟨x.block, x.off + i, none⟩ = some (.string (ss.getD i ByteArray.empty)) := fun i hi => by
      have := hcell i hi
      rw [hap, st_add] at this
      exact this
    have hlen : (ss.take l0).length = l0 := by simp; omega
    refine ⟨x.block, x.off, ss.take l0, ⟨fun i hi => ?_, fun _ => ⟨lt_of_cell (a := ⟨x.block, x.off + 0, none⟩) (hcc 0 (by omega)), rfl⟩⟩, hlen, by omega, fun _ => by rw [← hap], ss, .inr hd, rfl⟩
    rw [hlen] at hi
    rw [hcc i (by omega)]
    have : (ss.take l0).getD i ByteArray.empty = ss.getD i ByteArray.empty := by
      rw [List.getD_eq_getElem?_getD, List.getD_eq_getElem?_getD, List.getElem?_take, if_pos hi]
    rw [this]

theorem mem_weights {H : Type} {e : TypeId} {d : DataW H} {n : Nat} : ∀ {l : List (DataW H)}, d ∈ l → n ∈ d.weights Tryz.prog e → n ∈ DataW.weightsAll Tryz.prog e l
  | [], h, _ => by simp at h
  | x :: r, h, hn => by
    rw [DataW.weightsAll, List.mem_append]
    rcases List.mem_cons.1 h with rfl | h
    · exact .inl hn
    · exact .inr (mem_weights h hn)

/-- No string is too long. -/
theorem few_strs {H : Type} {ts : List TypeId} {ds : List (DataW H)} {d : DataW H} {j l0 : Nat} {zs ss : List ByteArray} (h : (DataW.weightsEach Tryz.prog ts ds).all (· ≤ reachBytes) = true) (ht : ts[j]? = some 51) (hd : ds[j]? = some d) (hz : l0 = 0 ∨ d = .slice (strs (zs.take l0)) (strs (zs.drop l0))) (hs : ss = zs.take l0) :
    ∀ i, i < ss.length → (ss.getD i ByteArray.empty).size ≤ 140737488355328 := by
  intro i hi
  rcases hz with rfl | rfl
  · rw [hs] at hi
    simp at hi
  · rw [← hs] at hd
    have hg : ss[i]? = some (ss.getD i ByteArray.empty) := by simp [List.getD, hi]
    have hm : (DataW.lit (.string (ss.getD i ByteArray.empty).data.toList) : DataW H) ∈ strs (H := H) ss := by
      unfold strs
      exact List.mem_map.2 ⟨_, List.mem_of_getElem? hg, rfl⟩
    have := List.all_eq_true.1 h _ (DataW.weights_mem_each ht hd (ss.getD i ByteArray.empty).data.toList.length (by
      rw [DataW.weights]
      simp only [Tryz.underlying51]
      simp only [List.mem_cons, List.mem_append]
      right
      first
        | exact .inl (mem_weights hm (by simp [DataW.weights]))
        | exact mem_weights (List.mem_append_left _ hm) (by simp [DataW.weights])))
    have h9 := of_decide_eq_true this
    rw [size_data] at h9
    unfold reachBytes at h9
    omega

end Go.Proofs.YtjabhnhejbhgjaaGreatDoor
