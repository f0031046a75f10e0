/- Two lights taken out of a list of lights in its place: contracts. -/
import Derived.Test.YtinfbbbgfkaioaaGp
import Derived.Test.YtinfbbbgfkaioaaCl
import Derived.Lib.SliceRun
namespace Go.Proofs.Ytinfbbbgfkaioaa
open Go.RowKit
set_option linter.unusedVariables false
set_option linter.unusedSimpArgs false
set_option maxRecDepth 20000 in
set_option maxHeartbeats 1600000 in
theorem gdl_any {w : World} {q : Nat} (g : Gu) (x : Li) (po : Option Addr) (m pc : Nat) (h0 : w.cell? ⟨q, 0, none⟩ = some (.int .i64 g.wk)) (h1 : w.cell? ⟨q, 1, none⟩ = some (.int .i64 g.sp)) :
    Calls Try.prog 55 #[.agg #[.int .i64 x.id, .int .i64 x.fr, .int .i64 x.tt, .slice po m pc, .int .i64 x.fi, .int .i64 x.wd], .pointer (some ⟨q, 0, none⟩)] w fun e w' => e = .returned (.bool (gone g x.id)) ∧ Below w.heap.size w w' := by
  have hlt := World.block_lt_of_cell? _ _ h0
  go_enter Try.func55, Try.ntmps55
  go_wp2_with fail
  refine (iHas_any g x.id _).mono ?_
  rintro e w1 ⟨rfl, hb⟩
  have HB : Hid (Below w.heap.size w w1) := by refine box_step ?_ hb (by simp); go_grown
  clear hb h0 h1
  go_wp2
  go_ret
  exact ⟨rfl, HB.out⟩
/-- What the closure says of each light: the two of places a and b are taken out. -/
structure Two (q : Nat) (g : Gu) (n a b : Nat) (L : Nat → Li) (w : World) : Prop where
  c0 : w.cell? ⟨q, 0, none⟩ = some (.int .i64 g.wk)
  c1 : w.cell? ⟨q, 1, none⟩ = some (.int .i64 g.sp)
  says : ∀ k, k < n → gone g (L k).id = decide (k = a ∨ k = b)
theorem Two.later {q n a b : Nat} {g : Gu} {L : Nat → Li} {w w' : World} (h : Two q g n a b L w) (hb : Below w.heap.size w w') : Two q g n a b L w' := ⟨kold hb h.c0, kold hb h.c1, h.says⟩
theorem Two.keep {q n a b r : Nat} {g : Gu} {L : Nat → Li} {w w' : World} (h : Two q g n a b L w) (ho : ∀ k, k < w.heap.size → k ≠ r → w'.heap[k]? = w.heap[k]?) (hq : q ≠ r) : Two q g n a b L w' := by
  have hl := World.block_lt_of_cell? _ _ h.c0
  have e := ho q hl hq
  have key : ∀ o (v : Value), w.cell? ⟨q, o, none⟩ = some v → w'.cell? ⟨q, o, none⟩ = some v := fun o v hv => by
    rw [← hv]
    simp only [World.cell?, e]
  exact ⟨key _ _ h.c0, key _ _ h.c1, h.says⟩
set_option maxRecDepth 20000 in
set_option maxHeartbeats 1600000 in
theorem tix_any {w : World} {ao : Option Addr} {n cap q a b r : Nat} {g : Gu} {L : Nat → Li} (h : RdL w (.slice ao n cap) n L) (hG : Two q g n a b L w) (hr : r < n) (hra : r = a ∨ r = b) (hrm : r ≤ a ∧ r ≤ b) (hn : n ≤ 1048576) :
    Calls Try.prog 89 #[.slice ao n cap, .func (.func 55) #[] #[.pointer (some ⟨q, 0, none⟩)]] w fun e w' => e = .returned (.int .i64 r) ∧ Below w.heap.size w w' := by
  have HR : ∀ W, Below w.heap.size w W → Hid (RdL W (.slice ao n cap) n L ∧ Two q g n a b L W) := fun W hb => ⟨h.later hb, hG.later hb⟩
  clear h hG
  have hnI : (n : Int) ≤ 1048576 := by omega
  have HRR : Hid ((r = a ∨ r = b) ∧ r ≤ a ∧ r ≤ b) := ⟨hra, hrm⟩
  clear hra hrm
  go_enter Try.func89, Try.ntmps89
  go_wp2_with fail
  go_loopw [8] (fun i wr => ∃ k : Nat, k ≤ r ∧ i = .int .i64 k ∧ Hid (Below w.heap.size w wr)) (fun i _ => n - (intOf i).toNat)
  case atStart => exact ⟨0, Nat.zero_le _, rfl, Below.refl _ _⟩
  case round =>
    obtain ⟨k, hk, rfl, HB⟩ := hrel
    have hkn : k < n := by omega
    obtain ⟨bb, off, po, pc, rfl, hc, hp⟩ := (HR wr HB.out).out.1.at hkn
    obtain ⟨x, hx⟩ : ∃ x, x = L k := ⟨_, rfl⟩
    obtain ⟨m, hm⟩ : ∃ m, m = (L k).np := ⟨_, rfl⟩
    have hG := (HR wr HB.out).out.2
    have hs := hG.says k hkn
    rw [← hm, ← hx] at hc
    rw [← hx] at hs
    have c0 : wr.cell? ⟨bb, off + k * 6, none⟩ = some (.int .i64 x.id) := hc 0 (by omega)
    have c1 : wr.cell? ⟨bb, off + k * 6 + 1, none⟩ = some (.int .i64 x.fr) := hc 1 (by omega)
    have c2 : wr.cell? ⟨bb, off + k * 6 + 2, none⟩ = some (.int .i64 x.tt) := hc 2 (by omega)
    have c3 : wr.cell? ⟨bb, off + k * 6 + 3, none⟩ = some (.slice po m pc) := hc 3 (by omega)
    have c4 : wr.cell? ⟨bb, off + k * 6 + 4, none⟩ = some (.int .i64 x.fi) := hc 4 (by omega)
    have c5 : wr.cell? ⟨bb, off + k * 6 + 5, none⟩ = some (.int .i64 x.wd) := hc 5 (by omega)
    have HCl := gdl_any g x po m pc hG.c0 hG.c1
    have hkI : (k : Int) < n := by omega
    rw [hs] at HCl
    clear hc hx hm HR hp hs hG
    by_cases he : k = r
    · rw [decide_eq_true (by rcases HRR.out.1 with e | e <;> omega)] at HCl
      have HE : Hid (k = r) := he
      clear he
      go_wp2_with (first | (go_at_call 55; refine HCl.mono ?_; rintro e w1 ⟨rfl, hb1⟩))
      go_ret
      exact ⟨by rw [HE.out]; rfl, HB.out.trans (hb1.mono HB.out.size)⟩
    · rw [decide_eq_false (by have := HRR.out.2; omega)] at HCl
      have hlt : k < r := by omega
      clear he
      go_wp2_with (first | (go_at_call 55; refine HCl.mono ?_; rintro e w1 ⟨rfl, hb1⟩))
      go_roundw
      case rel => exact ⟨k + 1, by omega, by simp, HB.out.trans (hb1.mono HB.out.size)⟩
      case measure => simp [intOf]; omega
theorem zero80 (w : World) : (zeroValue 80).run Try.prog w = .ok (.agg #[.int .i64 0, .int .i64 0, .int .i64 0, .slice none 0 0, .int .i64 0, .int .i64 0]) w := by kernel_rfl
/-- The cells of two lights that are none. -/
def nul2 : List Value := [.int .i64 0, .int .i64 0, .int .i64 0, .slice none 0 0, .int .i64 0, .int .i64 0, .int .i64 0, .int .i64 0, .int .i64 0, .slice none 0 0, .int .i64 0, .int .i64 0]
/-- 'clear(list[d:])', two lights. -/
theorem run_clear_two {w : World} {g d n c : Nat} {f : Nat → Nat → Value} (ty : TypeId) (h : SegV w g 80 n 6 f) (hd : d + 1 < n) :
    (Builtin.clear_ #[30] ty #[.slice (some ⟨g, d * 6, none⟩) 2 c]).run Try.prog w = .ok (.tuple #[]) (w.setCells g (d * 6) nul2) := by
  have hz : (Builtin.zeroCells (Value.agg #[.int .i64 0, .int .i64 0, .int .i64 0, .slice none 0 0, .int .i64 0, .int .i64 0]).cells 2).toList = nul2 := by kernel_rfl
  have hst := run_storeCells_cells (P := Try.prog) g (d * 6) nul2 0 w (by
    intro j hj
    have hj : j < 12 := hj
    rw [Nat.add_zero]
    by_cases c6 : j < 6
    · rw [h.cell (i := d) (by omega) c6]; rfl
    · have e : d * 6 + j = (d + 1) * 6 + (j - 6) := by omega
      rw [e, h.cell (i := d + 1) hd (show j - 6 < 6 by omega)]; rfl) (by intro j hj; exact h.frozen _) (by simp [nul2, Value.oneCell'])
  simp only [Nat.add_zero] at hst
  simp [Builtin.clear_, run_underlying Try.underlying30, zero80, hz, hst]
end Go.Proofs.Ytinfbbbgfkaioaa
