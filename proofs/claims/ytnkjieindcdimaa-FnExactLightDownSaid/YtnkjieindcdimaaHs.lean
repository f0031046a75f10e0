/- Whether a light is in a book still: contracts. -/
import Derived.Test.YtnkjieindcdimaaLd
import Derived.Test.YtnkjieindcdimaaNe
namespace Go.Proofs.Ytnkjieindcdimaa
open Go.RowKit Go.Maps
set_option linter.unusedVariables false
set_option linter.unusedSimpArgs false
theorem run_book {w : World} {b n : Nat} {B : Int → Int → Int} (hB : Book w b n B) {f s : Int} (wf : W64 f) (ws : W64 s) : (Instr.lookup 108 (.map (some b)) (.agg #[.int .i64 f, .int .i64 s]) false).run Try.prog w = .ok (.int .i64 (B f s)) w := by
  obtain ⟨D, h1, h2, h3⟩ := hB
  obtain ⟨c, hrun, hat, _⟩ := h1.lookup_int law115 Try.underlying108 Try.underlying2 (zero2 w) (key115 wf ws)
  have := (h3 f s wf ws).1
  rw [hat] at this
  simp at this
  rw [hrun, this]
set_option maxRecDepth 20000 in
set_option maxHeartbeats 1600000 in
theorem has_any {w : World} {b n : Nat} {B : Int → Int → Int} {po : Option Addr} {m pc : Nat} (x : Li) (hB : Book w b n B) (hp : RdRow w (.slice po m pc) m x.p) (hF : Fine x m) :
    Calls Try.prog 97 #[.map (some b), .agg #[.int .i64 x.id, .int .i64 x.fr, .int .i64 x.tt, .slice po m pc, .int .i64 x.fi, .int .i64 x.wd]] w fun e w' => e = .returned (.bool (B (x.p 0) x.fi == x.id)) ∧ Below w.heap.size w w' := by
  obtain ⟨pb, pf, rfl, hp0⟩ := hp.at hF.m1
  have hm := hF.m1
  have hmI : (0 : Int) < m := by omega
  have w1 : W64 (x.p 0) := by have := hF.fib 0 hF.m1; exact w64_small this.1 (by omega)
  have w2 : W64 x.fi := w64_small hF.f0 (by have := hF.f64; omega)
  obtain ⟨X, hX⟩ : ∃ X, X = w.alloc (.cells #[.int .i64 x.id, .int .i64 x.fr, .int .i64 x.tt, .slice (some ⟨pb, pf, none⟩) m pc, .int .i64 x.fi, .int .i64 x.wd] 105) := ⟨_, rfl⟩
  have BX : Hid (Blk X w.heap.size #[.int .i64 x.id, .int .i64 x.fr, .int .i64 x.tt, .slice (some ⟨pb, pf, none⟩) m pc, .int .i64 x.fi, .int .i64 x.wd] 105 ∧ Below w.heap.size w X) := by rw [hX]; exact ⟨Blk.new rfl, (Below.refl _ _).alloc (Nat.le_refl _) _⟩
  have hBX : Book X b n B := hB.later BX.out.2
  have K0 : ∀ q : Kept X.heap.size X, q.w.cell? ⟨w.heap.size, 0, none⟩ = some (.int .i64 x.id) := fun q => (BX.out.1.old q.h).cell rfl
  have K3 : ∀ q : Kept X.heap.size X, q.w.cell? ⟨w.heap.size, 3, none⟩ = some (.slice (some ⟨pb, pf, none⟩) m pc) := fun q => (BX.out.1.old q.h).cell rfl
  have K4 : ∀ q : Kept X.heap.size X, q.w.cell? ⟨w.heap.size, 4, none⟩ = some (.int .i64 x.fi) := fun q => (BX.out.1.old q.h).cell rfl
  obtain ⟨f, hf⟩ : ∃ f, f = x.p 0 := ⟨_, rfl⟩
  rw [← hf] at w1 hp0 ⊢
  have KP : ∀ q : Kept X.heap.size X, q.w.cell? ⟨pb, pf, none⟩ = some (.int .i64 f) := fun q => kold q.h (kold BX.out.2 (by simpa using hp0))
  have KL : ∀ q : Kept X.heap.size X, (Instr.lookup 108 (.map (some b)) (.agg #[.int .i64 f, .int .i64 x.fi]) false).run Try.prog q.w = .ok (.int .i64 (B f x.fi)) q.w := fun q => run_book (hBX.later q.h) w1 w2
  obtain ⟨c, hc⟩ : ∃ c, c = B f x.fi := ⟨_, rfl⟩
  rw [← hc] at KL ⊢
  clear hB hBX hp hp0 hF w1 w2 hf hc
  go_enter Try.func97, Try.ntmps97
  go_wp2_with fail
  rw [← hX]
  clear hX
  refine wp_region_kept X.heap.size (by kernel_rfl) (by kernel_rfl) ?_
  intro hne
  repeat (go_big_quiet_step (fail))
  refine wpQuiet_nil ?_
  rintro u7 ⟨xk, hxk⟩
  have hR1 := xk.h
  rw [← hxk] at hR1
  clear hxk xk hne K0 K3 K4 KP KL
  have HB : Hid (Below w.heap.size w u7) := BX.out.2.trans (hR1.mono (Nat.le_of_lt BX.out.1.lt))
  clear hR1
  go_wp2
  go_ret
  exact ⟨rfl, HB.out⟩
set_option maxRecDepth 20000 in
set_option maxHeartbeats 1600000 in
theorem dcl_any {w : World} {b n q : Nat} {B : Int → Int → Int} {po : Option Addr} {m pc : Nat} (x : Li) (hB : Book w b n B) (hp : RdRow w (.slice po m pc) m x.p) (hF : Fine x m) (h0 : w.cell? ⟨q, 0, none⟩ = some (.map (some b))) :
    Calls Try.prog 96 #[.agg #[.int .i64 x.id, .int .i64 x.fr, .int .i64 x.tt, .slice po m pc, .int .i64 x.fi, .int .i64 x.wd], .pointer (some ⟨q, 0, none⟩)] w fun e w' => e = .returned (.bool (!(B (x.p 0) x.fi == x.id))) ∧ Below w.heap.size w w' := by
  have hlt := World.block_lt_of_cell? _ _ h0
  have H : ∀ W, Below w.heap.size w W → Hid (Book W b n B ∧ RdRow W (.slice po m pc) m x.p) := fun W h => ⟨hB.later h, hp.later h⟩
  have HF : Hid (Fine x m) := hF
  clear hB hp hF
  obtain ⟨c, hc⟩ : ∃ c, c = (B (x.p 0) x.fi == x.id) := ⟨_, rfl⟩
  rw [← hc]
  have HC : Hid (c = (B (x.p 0) x.fi == x.id)) := hc
  clear hc
  go_enter Try.func96, Try.ntmps96
  go_wp2_with fail
  refine (has_any x (H _ (by go_grown)).out.1 (H _ (by go_grown)).out.2 HF.out).mono ?_
  rintro e w1 ⟨rfl, hb1⟩
  have HB : Hid (Below w.heap.size w w1) := by refine box_step ?_ hb1 (by simp); go_grown
  rw [← HC.out]
  clear hb1 H
  cases c with
  | true =>
    go_wp2
    go_ret
    exact ⟨rfl, HB.out⟩
  | false =>
    go_wp2
    go_ret
    exact ⟨rfl, HB.out⟩
/-- What the closure says of each light: it is taken out, the others are in the book still. -/
structure Gone (b q nb : Nat) (B : Int → Int → Int) (n g : Nat) (L : Nat → Li) (w : World) : Prop where
  book : Book w b nb B
  cell : w.cell? ⟨q, 0, none⟩ = some (.map (some b))
  fine : ∀ k, k < n → Fine (L k) (L k).np
  says : ∀ k, k < n → (B ((L k).p 0) (L k).fi == (L k).id) = !decide (k = g)
theorem Gone.later {b q nb n g : Nat} {B : Int → Int → Int} {L : Nat → Li} {w w' : World} (h : Gone b q nb B n g L w) (hb : Below w.heap.size w w') : Gone b q nb B n g L w' := ⟨h.book.later hb, kold hb h.cell, h.fine, h.says⟩
set_option maxRecDepth 20000 in
set_option maxHeartbeats 1600000 in
theorem dix_any {w : World} {ao : Option Addr} {n cap q b nb g : Nat} {B : Int → Int → Int} {L : Nat → Li} (h : RdL w (.slice ao n cap) n L) (hG : Gone b q nb B n g L w) (hg : g < n) (hn : n ≤ 1048576) :
    Calls Try.prog 121 #[.slice ao n cap, .func (.func 96) #[] #[.pointer (some ⟨q, 0, none⟩)]] w fun e w' => e = .returned (.int .i64 g) ∧ Below w.heap.size w w' := by
  have HR : ∀ W, Below w.heap.size w W → Hid (RdL W (.slice ao n cap) n L ∧ Gone b q nb B n g L W) := fun W hb => ⟨h.later hb, hG.later hb⟩
  clear h hG
  have hnI : (n : Int) ≤ 1048576 := by omega
  go_enter Try.func121, Try.ntmps121
  go_wp2_with fail
  go_loopw [8] (fun i wr => ∃ k : Nat, k ≤ g ∧ i = .int .i64 k ∧ Hid (Below w.heap.size w wr)) (fun i _ => n - (intOf i).toNat)
  case atStart => exact ⟨0, Nat.zero_le _, rfl, Below.refl _ _⟩
  case round =>
    obtain ⟨k, hk, rfl, HB⟩ := hrel
    have hkn : k < n := by omega
    obtain ⟨bb, off, po, pc, rfl, hc, hp⟩ := (HR wr HB.out).out.1.at hkn
    obtain ⟨x, hx⟩ : ∃ x, x = L k := ⟨_, rfl⟩
    obtain ⟨m, hm⟩ : ∃ m, m = (L k).np := ⟨_, rfl⟩
    have hG := (HR wr HB.out).out.2
    have hf := hG.fine k hkn
    have hs := hG.says k hkn
    rw [← hm, ← hx] at hc hp hf
    rw [← hx] at hs
    have c0 : wr.cell? ⟨bb, off + k * 6, none⟩ = some (.int .i64 x.id) := hc 0 (by omega)
    have c1 : wr.cell? ⟨bb, off + k * 6 + 1, none⟩ = some (.int .i64 x.fr) := hc 1 (by omega)
    have c2 : wr.cell? ⟨bb, off + k * 6 + 2, none⟩ = some (.int .i64 x.tt) := hc 2 (by omega)
    have c3 : wr.cell? ⟨bb, off + k * 6 + 3, none⟩ = some (.slice po m pc) := hc 3 (by omega)
    have c4 : wr.cell? ⟨bb, off + k * 6 + 4, none⟩ = some (.int .i64 x.fi) := hc 4 (by omega)
    have c5 : wr.cell? ⟨bb, off + k * 6 + 5, none⟩ = some (.int .i64 x.wd) := hc 5 (by omega)
    have HCl := dcl_any x hG.book hp hf hG.cell
    have hkI : (k : Int) < n := by omega
    rw [hs, Bool.not_not] at HCl
    clear hc hx hm HR hp hf hs hG
    by_cases he : k = g
    · rw [decide_eq_true he] at HCl
      have HE : Hid (k = g) := he
      clear he
      go_wp2_with (first | (go_at_call 96; refine HCl.mono ?_; rintro e w1 ⟨rfl, hb1⟩))
      go_ret
      exact ⟨by rw [HE.out]; rfl, HB.out.trans (hb1.mono HB.out.size)⟩
    · rw [decide_eq_false he] at HCl
      have hlt : k < g := by omega
      clear he
      go_wp2_with (first | (go_at_call 96; refine HCl.mono ?_; rintro e w1 ⟨rfl, hb1⟩))
      go_roundw
      case rel => exact ⟨k + 1, by omega, by simp, HB.out.trans (hb1.mono HB.out.size)⟩
      case measure => simp [intOf]; omega
end Go.Proofs.Ytnkjieindcdimaa
