/- Products. -/
import Derived.Test.YtjabhnhejbhgjaaDoorHandsRestore
import Derived.Test.YtjabhnhejbhgjaaDoorAwakeWalk
import Derived.Test.YtjabhnhejbhgjaaDoorRefMulWalk
namespace Go.Proofs.YtjabhnhejbhgjaaDoor
open Go.RowKit

def hs0 : HS := ⟨.slice none 0 0, .slice none 0 0, .slice none 0 0, .slice none 0 0, 0, .slice none 0 0, .slice none 0 0, .slice none 0 0, .slice none 0 0, .slice none 0 0, .slice none 0 0, .slice none 0 0, .slice none 0 0⟩

theorem Inv.start {A : Nat → Addr} {B0 : Nat} {w : World} {hb : Nat} (hE : Errs A B0 w) (hlow : B0 ≤ hb) (hH : HAt w hb hs0) : Inv A B0 w hb 0 hs0 [] [] :=
  ⟨hE, hlow, hH, rfl, rfl, rfl, rfl, rfl, ⟨World.ownsRow_nil .., World.ownsRow_nil .., fun e he => by simp at he⟩, ⟨World.ownsRow_nil .., World.ownsRow_nil .., fun e he => by simp at he⟩, rfl, rfl, fun g hg => by simp [hs0, Value.ownBlock] at hg, fun e he => by simp at he⟩

theorem Came.at {w w' : World} {H hb lb lo n : Nat} {al : Option Addr} {rs : List Raw} (h : Came w H al lb lo n rs) (hb' : Below H w w') (hH : H ≤ hb) : Came w' hb al lb lo n rs := by
  have h1 := h.but (S := fun b => H ≤ b) (Below.but hb' _ (fun i _ q => by omega)) (fun b q => q)
  exact ⟨h1.len, h1.few, h1.small, h1.adr, h1.ws, Nat.lt_of_lt_of_le h1.lbLow hH, fun i hi h0 g hg => Nat.lt_of_lt_of_le (h1.rowLow i hi h0 g hg) hH⟩
theorem CameZ.at {w w' : World} {H hb zb zo zn : Nat} {az : Option Addr} {l : List Int} (h : CameZ w H az zb zo zn l) (hb' : Below H w w') (hH : H ≤ hb) : CameZ w' hb az zb zo zn l := by
  have h1 := h.but (S := fun b => H ≤ b) (Below.but hb' _ (fun i _ q => by omega)) (fun b q => q)
  exact ⟨h1.len, h1.few, h1.adr, h1.zs, Nat.lt_of_lt_of_le h1.low hH⟩

set_option maxRecDepth 100000 in
set_option maxHeartbeats 2000000 in
theorem products_any (A : Nat → Addr) (a b : Gf.F) (lb lo lc n lb2 lo2 lc2 sn zb zo zc zn : Nat) (al al2 az : Option Addr) (rs rs2 : List Raw) (l : List Int) (place k : Int) (w : World) (hE : Errs A w.heap.size w)
    (hC : Came w w.heap.size al lb lo n rs) (hC2 : Came w w.heap.size al2 lb2 lo2 sn rs2) (hZ : CameZ w w.heap.size az zb zo zn l) :
    Calls Tryd.prog 4 #[.int .u8 (a.toNat : Int), .int .u8 (b.toNat : Int), .slice al n lc, .int .i64 place, .int .i64 k, .slice az zn zc, .slice al2 sn lc2] w fun e w' => e = .returned (.bool true) ∧ Below w.heap.size w w' := by
  have hr := exRs w
  go_enter Tryd.func4, Tryd.ntmps4
  go_wp2_with fail
  generalize hW : ((w.alloc _).alloc _).alloc _ = W at hr ⊢
  have hb : Below w.heap.size w W := by rw [← hW]; exact (((Below.refl _ _).alloc (Nat.le_refl _) _).alloc (by simp) _).alloc (by simp; omega) _
  have HZ : Hid (W.heap.size = w.heap.size + 3) := by rw [← hW]; show _ = _; simp
  clear hW
  refine (symbol_ok (w.heap.size + 2) 0 2 1 2 (exRows w.heap.size) 2 _ rfl rfl rfl rfl rfl (by omega) hr (fun i hi => ?_)).mono ?_
  · have : i = 0 ∨ i = 1 := by simp [exRows] at hi; omega
    rw [HZ.out]
    rcases this with rfl | rfl
    · show w.heap.size < _; omega
    · show w.heap.size + 1 < _; omega
  rintro e w2 ⟨rfl, hG, hb2, hz2⟩
  rw [exSym] at hG
  have hcv := hG.bs.conv 1 1 rfl
  rw [exStr] at hcv
  clear hz2
  have hlow2 : Below w.heap.size w w2 := hb.trans (hb2.mono (by rw [HZ.out]; omega))
  clear hG hr hb hb2
  have hmul := mul_any a b
  have hrefmul := refMul_any a b
  go_wp2_with (first | (go_at_call 10; refine (hmul _).mono ?_; rintro e w' ⟨rfl, rfl⟩) | (go_at_call 11; refine (hrefmul _).mono ?_; rintro e w' ⟨rfl, rfl⟩))
  have hz := hlow2.size
  have hlow3 : Below w.heap.size w (w2.alloc (.cells hs0.cells 43)) := hlow2.alloc hz _
  have hH : HAt (w2.alloc (.cells hs0.cells 43)) w2.heap.size hs0 := heap_alloc_new w2 _
  have hI := Inv.start (hb := w2.heap.size) (hE.below hlow3) hz hH
  have hMM : Hid (((Gf.mul a b).toNat : Int) == ((Gf.mul a b).toNat : Int)) := by show _ = true; simp
  refine (symbol_any A w.heap.size w2.heap.size 0 lb lo lc n al rs place hs0 [] [] _ hI (hC.at hlow3 hz) (by omega) (by simp) (by simp)).mono ?_
  rintro e w4 ⟨rfl, s4, es4, hI4, hl4, hb4⟩
  have hlow4 : Below w.heap.size w w4 := hlow3.trans (hb4.mono hz)
  go_wp2_with fail
  refine (restoreH_any A w.heap.size w2.heap.size 1 lb2 lo2 lc2 sn zb zo zc zn al2 az rs2 l k s4 ([] ++ es4) w4 hI4 (hC2.at hlow4 hz) (hZ.at hlow4 hz) (by omega) (by simp; omega)).mono ?_
  rintro e w5 ⟨rfl, N5, s5, es5, ls5, hI5, hN5, hl5, hll5, hb5⟩
  have hlow5 : Below w.heap.size w w5 := hlow4.trans (hb5.mono hz)
  have hl5' : es5.length ≤ 36 := by simp at hl5; omega
  go_wp2_with fail
  refine (symbol_any A w.heap.size w2.heap.size N5 lb lo lc n al rs place s5 es5 ls5 w5 hI5 (hC.at hlow5 hz) (by omega) (by omega) (by omega)).mono ?_
  rintro e w6 ⟨rfl, s6, es6, hI6, hl6, hb6⟩
  have hlow6 : Below w.heap.size w w6 := hlow5.trans (hb6.mono hz)
  go_wp2_with fail
  all_goals go_ret
  all_goals exact ⟨rfl, hlow6⟩

end Go.Proofs.YtjabhnhejbhgjaaDoor
