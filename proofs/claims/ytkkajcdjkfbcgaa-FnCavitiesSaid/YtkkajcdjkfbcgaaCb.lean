/- A mirror's term and power: the program's way. -/
import Derived.Test.YtkkajcdjkfbcgaaCa
namespace Go.Proofs.Ytkkajcdjkfbcgaa
open Go.RowKit
set_option linter.unusedVariables false
set_option linter.unusedSimpArgs false
theorem nil_den {x : Q} (h : x.ok = true) (hn : x.n = 0) : x.d = 1 := by
  obtain ⟨h1, _, _, _, hg⟩ := right_t h
  rw [hn] at hg
  simp at hg
  omega
theorem iint_one (w : World) : Calls Try.prog 72 #[.int .i64 1] w fun e w' => e = .returned (.agg #[.int .i64 one.n, .int .i64 one.d]) ∧ Below w.heap.size w w' := iint 1 w
def two : Q := ⟨2, 1⟩
theorem iint_two (w : World) : Calls Try.prog 72 #[.int .i64 2] w fun e w' => e = .returned (.agg #[.int .i64 two.n, .int .i64 two.d]) ∧ Below w.heap.size w w' := iint 2 w
set_option maxRecDepth 20000 in
set_option maxHeartbeats 3200000 in
theorem iterm_0 (L R : Q) (r : Nat) (b : Bool) (w : World) (h : flag r b w) (hR : R.ok = true) (hn : R.n = 0) : Calls Try.prog 68 #[.agg #[.int .i64 L.n, .int .i64 L.d], .agg #[.int .i64 R.n, .int .i64 R.d], .pointer (some ⟨r, 0, none⟩)] w fun e w' => e = .returned (.agg #[.int .i64 one.n, .int .i64 one.d]) ∧ But r w.heap.size w w' ∧ flag r (b) w' := by
  have hz : (R.n == 0) = true := by simpa using hn
  have hd : (R.d == 1) = true := by have h3 := nil_den hR hn; simpa using h3
  have st := st25
  clear hn hR
  have hl := h.lt
  obtain ⟨w0, hw0⟩ : ∃ W, W = ((w.alloc (.cells #[.int .i64 L.n, .int .i64 L.d] 32)).alloc (.cells #[.int .i64 R.n, .int .i64 R.d] 32)).alloc (.cells #[.int .i64 0, .int .i64 0] 32) := ⟨_, rfl⟩
  have FL : Hid (flag r b w0) := by show flag _ _ _; rw [hw0]; exact (((h.alloc _).alloc _).alloc _)
  have HB : Hid (Below w.heap.size w w0) := by show Below _ _ _; rw [hw0]; go_grown
  have BL : Hid (Blk w0 (w.heap.size) #[.int .i64 L.n, .int .i64 L.d] 32) := by show Blk _ _ _ _; rw [hw0]; exact ((Blk.new (by simp)).alloc _).alloc _
  have BR : Hid (Blk w0 (w.heap.size + 1) #[.int .i64 R.n, .int .i64 R.d] 32) := by show Blk _ _ _ _; rw [hw0]; exact (Blk.new (by simp)).alloc _
  have BR0 : Hid (Blk w0 (w.heap.size + 1 + 1) #[.int .i64 0, .int .i64 0] 32) := by show Blk _ _ _ _; rw [hw0]; exact Blk.new (by simp)
  clear h
  go_enter Try.func68, Try.ntmps68
  go_upto_region 1 with fail
  rw [← hw0]
  clear hw0
  have k_R_0 : ∀ x : Kept w0.heap.size w0, x.w.cell? ⟨w.heap.size + 1, 0, none⟩ = some (.int .i64 R.n) := fun x => x.cell BR.out.lt (BR.out.cell (j := 0) rfl)
  have k_R_1 : ∀ x : Kept w0.heap.size w0, x.w.cell? ⟨w.heap.size + 1, 1, none⟩ = some (.int .i64 R.d) := fun x => x.cell BR.out.lt (BR.out.cell (j := 1) rfl)
  refine wp_region_kept w0.heap.size (by kernel_rfl) (by kernel_rfl) ?_
  intro hne
  repeat (go_big_quiet_step (first | (go_at_call 72; exact Calls.kept_of (Nat.le_refl _) (iint _ _))))
  refine wpQuiet_nil ?_
  rintro w1 ⟨xk, hxk⟩
  have hR1 := xk.h
  rw [← hxk] at hR1
  clear hxk xk hne k_R_0 k_R_1
  replace FL : Hid (flag r b w1) := FL.out.below hR1 FL.out.lt
  replace BL : Hid (Blk w1 (w.heap.size) #[.int .i64 L.n, .int .i64 L.d] 32) := BL.out.old hR1
  replace BR : Hid (Blk w1 (w.heap.size + 1) #[.int .i64 R.n, .int .i64 R.d] 32) := BR.out.old hR1
  replace BR0 : Hid (Blk w1 (w.heap.size + 1 + 1) #[.int .i64 0, .int .i64 0] 32) := BR0.out.old hR1
  replace HB : Hid (Below w.heap.size w w1) := HB.out.trans (hR1.mono HB.out.size)
  clear hR1
  go_wp2_with fail
  refine (iint _ _).mono ?_
  rintro e w2 ⟨rfl, hb⟩
  replace FL : Hid (flag r b w2) := FL.out.below hb FL.out.lt
  replace BR0 : Hid (Blk w2 (w.heap.size + 1 + 1) #[.int .i64 0, .int .i64 0] 32) := BR0.out.old hb
  replace HB : Hid (Below w.heap.size w w2) := HB.out.trans (hb.mono HB.out.size)
  clear hb
  have c0 := BR0.out.cell (j := 0) (v := .int .i64 0) rfl
  have c1 := BR0.out.cell (j := 1) (v := .int .i64 0) rfl
  have f0 := BR0.out.frozen 0
  have f1 := BR0.out.frozen 1
  go_wp2
  refine bodyPost_ret (v := .agg #[.int .i64 one.n, .int .i64 one.d]) (by simp [results, Try.results68, go_sem, c0, c1] <;> (repeat' (first | rfl | apply And.intro))) rfl ⟨rfl, ?_, ?_⟩
  · exact But.of_below ((HB.out.setCell (by simp <;> omega) _).setCell (by simp <;> omega) _)
  · exact (FL.out.setOther (by simp; omega) _).setOther (by simp; omega) _
set_option maxRecDepth 20000 in
set_option maxHeartbeats 3200000 in
theorem iterm_1 (L R : Q) (r : Nat) (b : Bool) (w : World) (h : flag r b w) (hn : ¬ R.n = 0) : Calls Try.prog 68 #[.agg #[.int .i64 L.n, .int .i64 L.d], .agg #[.int .i64 R.n, .int .i64 R.d], .pointer (some ⟨r, 0, none⟩)] w fun e w' => e = .returned (.agg #[.int .i64 (subQ one (divQ L R)).n, .int .i64 (subQ one (divQ L R)).d]) ∧ But r w.heap.size w w' ∧ flag r ((b || !divK L R) || !subK one (divQ L R)) w' := by
  have hz : (R.n == 0) = false := by simpa using hn
  have st := st25
  have hl := h.lt
  obtain ⟨w0, hw0⟩ : ∃ W, W = ((w.alloc (.cells #[.int .i64 L.n, .int .i64 L.d] 32)).alloc (.cells #[.int .i64 R.n, .int .i64 R.d] 32)).alloc (.cells #[.int .i64 0, .int .i64 0] 32) := ⟨_, rfl⟩
  have FL : Hid (flag r b w0) := by show flag _ _ _; rw [hw0]; exact (((h.alloc _).alloc _).alloc _)
  have HB : Hid (Below w.heap.size w w0) := by show Below _ _ _; rw [hw0]; go_grown
  have BL : Hid (Blk w0 (w.heap.size) #[.int .i64 L.n, .int .i64 L.d] 32) := by show Blk _ _ _ _; rw [hw0]; exact ((Blk.new (by simp)).alloc _).alloc _
  have BR : Hid (Blk w0 (w.heap.size + 1) #[.int .i64 R.n, .int .i64 R.d] 32) := by show Blk _ _ _ _; rw [hw0]; exact (Blk.new (by simp)).alloc _
  have BR0 : Hid (Blk w0 (w.heap.size + 1 + 1) #[.int .i64 0, .int .i64 0] 32) := by show Blk _ _ _ _; rw [hw0]; exact Blk.new (by simp)
  clear h
  go_enter Try.func68, Try.ntmps68
  go_upto_region 1 with fail
  rw [← hw0]
  clear hw0
  have k_R_0 : ∀ x : Kept w0.heap.size w0, x.w.cell? ⟨w.heap.size + 1, 0, none⟩ = some (.int .i64 R.n) := fun x => x.cell BR.out.lt (BR.out.cell (j := 0) rfl)
  have k_R_1 : ∀ x : Kept w0.heap.size w0, x.w.cell? ⟨w.heap.size + 1, 1, none⟩ = some (.int .i64 R.d) := fun x => x.cell BR.out.lt (BR.out.cell (j := 1) rfl)
  refine wp_region_kept w0.heap.size (by kernel_rfl) (by kernel_rfl) ?_
  intro hne
  repeat (go_big_quiet_step (first | (go_at_call 72; exact Calls.kept_of (Nat.le_refl _) (iint _ _))))
  refine wpQuiet_nil ?_
  rintro w1 ⟨xk, hxk⟩
  have hR1 := xk.h
  rw [← hxk] at hR1
  clear hxk xk hne k_R_0 k_R_1
  replace FL : Hid (flag r b w1) := FL.out.below hR1 FL.out.lt
  replace BL : Hid (Blk w1 (w.heap.size) #[.int .i64 L.n, .int .i64 L.d] 32) := BL.out.old hR1
  replace BR : Hid (Blk w1 (w.heap.size + 1) #[.int .i64 R.n, .int .i64 R.d] 32) := BR.out.old hR1
  replace BR0 : Hid (Blk w1 (w.heap.size + 1 + 1) #[.int .i64 0, .int .i64 0] 32) := BR0.out.old hR1
  replace HB : Hid (Below w.heap.size w w1) := HB.out.trans (hR1.mono HB.out.size)
  clear hR1
  have rn : r ≠ w.heap.size + 1 + 1 := by omega
  have h0 : OwB r (w.heap.size + 1 + 1) w1 (w.heap.size + 1 + 1) 2 32 w1 := ⟨But.refl _ _ _, Nat.le_refl _, by omega, ⟨_, BR0.out, rfl⟩⟩
  have F0 : flag r b w1 := FL.out
  have hl1 : r < w1.heap.size := FL.out.lt
  have kL0 : ∀ W, OwB r (w.heap.size + 1 + 1) w1 (w.heap.size + 1 + 1) 2 32 W → W.cell? ⟨w.heap.size, 0, none⟩ = some (.int .i64 L.n) := fun _ h => h.old (by simp <;> omega) (by simp <;> omega) (BL.out.cell (j := 0) rfl)
  have kL1 : ∀ W, OwB r (w.heap.size + 1 + 1) w1 (w.heap.size + 1 + 1) 2 32 W → W.cell? ⟨w.heap.size, 1, none⟩ = some (.int .i64 L.d) := fun _ h => h.old (by simp <;> omega) (by simp <;> omega) (BL.out.cell (j := 1) rfl)
  have kR0 : ∀ W, OwB r (w.heap.size + 1 + 1) w1 (w.heap.size + 1 + 1) 2 32 W → W.cell? ⟨w.heap.size + 1, 0, none⟩ = some (.int .i64 R.n) := fun _ h => h.old (by simp <;> omega) (by simp <;> omega) (BR.out.cell (j := 0) rfl)
  have kR1 : ∀ W, OwB r (w.heap.size + 1 + 1) w1 (w.heap.size + 1 + 1) 2 32 W → W.cell? ⟨w.heap.size + 1, 1, none⟩ = some (.int .i64 R.d) := fun _ h => h.old (by simp <;> omega) (by simp <;> omega) (BR.out.cell (j := 1) rfl)
  have g0 : ∀ W, OwB r (w.heap.size + 1 + 1) w1 (w.heap.size + 1 + 1) 2 32 W → W.cell? ⟨w.heap.size + 1 + 1, 0, none⟩ = some (got W (w.heap.size + 1 + 1) 0) := fun _ h => h.cell (by omega)
  have g1 : ∀ W, OwB r (w.heap.size + 1 + 1) w1 (w.heap.size + 1 + 1) 2 32 W → W.cell? ⟨w.heap.size + 1 + 1, 1, none⟩ = some (got W (w.heap.size + 1 + 1) 1) := fun _ h => h.cell (by omega)
  have gf : ∀ W j, OwB r (w.heap.size + 1 + 1) w1 (w.heap.size + 1 + 1) 2 32 W → W.frozen? ⟨w.heap.size + 1 + 1, j, none⟩ = false := fun _ j h => h.frozen j
  go_upto_region 3 with fail
  go_region_held (fun W => OwB r (w.heap.size + 1 + 1) w1 (w.heap.size + 1 + 1) 2 32 W) (first | with_reducible assumption | with_reducible exact OwB.drew ‹_› | with_reducible exact OwB.set (OwB.set ‹_› _ _) _ _)
    (first | (go_at_call 72; refine Calls.mono (iint_one _) ?_; rintro e wz ⟨rfl, hb2⟩; have F1 := flag.below (r := r) (by (repeat' (first | (with_reducible assumption) | (with_reducible apply flag.set) | (with_reducible apply flag.alloc) | (with_reducible apply flag.drew) | (with_reducible apply flag.setOther) | omega | (simp; omega) | (simp; done)))) hb2 (by first | omega | (simp; omega) | (simp; done)); have hR1 := OwB.call ‹_› (But.of_below hb2); have hlz : r < wz.heap.size := F1.lt) | (go_at_call 110; refine Calls.mono (rquot _ _ r _ _ (by (repeat' (first | (with_reducible assumption) | (with_reducible apply flag.set) | (with_reducible apply flag.alloc) | (with_reducible apply flag.drew) | (with_reducible apply flag.setOther) | omega | (simp; omega) | (simp; done))))) ?_; rintro e wz ⟨rfl, hb1, F1⟩; have hR1 := OwB.call ‹_› hb1) | (go_at_call 70; refine Calls.mono (rdiff _ _ r _ _ (by (repeat' (first | (with_reducible assumption) | (with_reducible apply flag.set) | (with_reducible apply flag.alloc) | (with_reducible apply flag.drew) | (with_reducible apply flag.setOther) | omega | (simp; omega) | (simp; done))))) ?_; rintro e wz ⟨rfl, hb1, F1⟩; have hR1 := OwB.call ‹_› hb1))
  have c0 := g0 _ hR1
  have c1 := g1 _ hR1
  clear kL0 kL1 kR0 kR1 g0 g1 gf
  repeat go_step
  refine bodyPost_ret (v := .agg #[.int .i64 (subQ one (divQ L R)).n, .int .i64 (subQ one (divQ L R)).d]) (by simp [results, Try.results68, go_sem, c0, c1] <;> (repeat' (first | rfl | apply And.intro))) rfl ⟨rfl, ?_, ?_⟩
  · exact (But.of_below HB.out).trans ((OwB.set (OwB.set hR1 0 _) 1 _).but.mono (by omega))
  · exact OwB.flag (OwB.set hR1 0 _) (OwB.flag hR1 (F1) 0 _) 1 _
set_option maxRecDepth 20000 in
set_option maxHeartbeats 3200000 in
theorem ipow_0 (R : Q) (r : Nat) (b : Bool) (w : World) (h : flag r b w) (hR : R.ok = true) (hn : R.n = 0) : Calls Try.prog 90 #[.agg #[.int .i64 R.n, .int .i64 R.d], .pointer (some ⟨r, 0, none⟩)] w fun e w' => e = .returned (.agg #[.int .i64 nil.n, .int .i64 nil.d]) ∧ But r w.heap.size w w' ∧ flag r (b) w' := by
  have hz : (R.n == 0) = true := by simpa using hn
  have hd : (R.d == 1) = true := by have h3 := nil_den hR hn; simpa using h3
  have st := st25
  clear hn hR
  have hl := h.lt
  obtain ⟨w0, hw0⟩ : ∃ W, W = (w.alloc (.cells #[.int .i64 R.n, .int .i64 R.d] 32)).alloc (.cells #[.int .i64 0, .int .i64 0] 32) := ⟨_, rfl⟩
  have FL : Hid (flag r b w0) := by show flag _ _ _; rw [hw0]; exact ((h.alloc _).alloc _)
  have HB : Hid (Below w.heap.size w w0) := by show Below _ _ _; rw [hw0]; go_grown
  have BR : Hid (Blk w0 (w.heap.size) #[.int .i64 R.n, .int .i64 R.d] 32) := by show Blk _ _ _ _; rw [hw0]; exact (Blk.new (by simp)).alloc _
  have BR0 : Hid (Blk w0 (w.heap.size + 1) #[.int .i64 0, .int .i64 0] 32) := by show Blk _ _ _ _; rw [hw0]; exact Blk.new (by simp)
  clear h
  go_enter Try.func90, Try.ntmps90
  go_upto_region 1 with fail
  rw [← hw0]
  clear hw0
  have k_R_0 : ∀ x : Kept w0.heap.size w0, x.w.cell? ⟨w.heap.size, 0, none⟩ = some (.int .i64 R.n) := fun x => x.cell BR.out.lt (BR.out.cell (j := 0) rfl)
  have k_R_1 : ∀ x : Kept w0.heap.size w0, x.w.cell? ⟨w.heap.size, 1, none⟩ = some (.int .i64 R.d) := fun x => x.cell BR.out.lt (BR.out.cell (j := 1) rfl)
  refine wp_region_kept w0.heap.size (by kernel_rfl) (by kernel_rfl) ?_
  intro hne
  repeat (go_big_quiet_step (first | (go_at_call 72; exact Calls.kept_of (Nat.le_refl _) (iint _ _))))
  refine wpQuiet_nil ?_
  rintro w1 ⟨xk, hxk⟩
  have hR1 := xk.h
  rw [← hxk] at hR1
  clear hxk xk hne k_R_0 k_R_1
  replace FL : Hid (flag r b w1) := FL.out.below hR1 FL.out.lt
  replace BR : Hid (Blk w1 (w.heap.size) #[.int .i64 R.n, .int .i64 R.d] 32) := BR.out.old hR1
  replace BR0 : Hid (Blk w1 (w.heap.size + 1) #[.int .i64 0, .int .i64 0] 32) := BR0.out.old hR1
  replace HB : Hid (Below w.heap.size w w1) := HB.out.trans (hR1.mono HB.out.size)
  clear hR1
  go_wp2_with fail
  refine (iint _ _).mono ?_
  rintro e w2 ⟨rfl, hb⟩
  replace FL : Hid (flag r b w2) := FL.out.below hb FL.out.lt
  replace BR0 : Hid (Blk w2 (w.heap.size + 1) #[.int .i64 0, .int .i64 0] 32) := BR0.out.old hb
  replace HB : Hid (Below w.heap.size w w2) := HB.out.trans (hb.mono HB.out.size)
  clear hb
  have c0 := BR0.out.cell (j := 0) (v := .int .i64 0) rfl
  have c1 := BR0.out.cell (j := 1) (v := .int .i64 0) rfl
  have f0 := BR0.out.frozen 0
  have f1 := BR0.out.frozen 1
  go_wp2
  refine bodyPost_ret (v := .agg #[.int .i64 nil.n, .int .i64 nil.d]) (by simp [results, Try.results90, go_sem, c0, c1] <;> (repeat' (first | rfl | apply And.intro))) rfl ⟨rfl, ?_, ?_⟩
  · exact But.of_below ((HB.out.setCell (by simp <;> omega) _).setCell (by simp <;> omega) _)
  · exact (FL.out.setOther (by simp; omega) _).setOther (by simp; omega) _
set_option maxRecDepth 20000 in
set_option maxHeartbeats 3200000 in
theorem ipow_1 (R : Q) (r : Nat) (b : Bool) (w : World) (h : flag r b w) (hn : ¬ R.n = 0) : Calls Try.prog 90 #[.agg #[.int .i64 R.n, .int .i64 R.d], .pointer (some ⟨r, 0, none⟩)] w fun e w' => e = .returned (.agg #[.int .i64 (divQ two R).n, .int .i64 (divQ two R).d]) ∧ But r w.heap.size w w' ∧ flag r (b || !divK two R) w' := by
  have hz : (R.n == 0) = false := by simpa using hn
  have st := st25
  have hl := h.lt
  obtain ⟨w0, hw0⟩ : ∃ W, W = (w.alloc (.cells #[.int .i64 R.n, .int .i64 R.d] 32)).alloc (.cells #[.int .i64 0, .int .i64 0] 32) := ⟨_, rfl⟩
  have FL : Hid (flag r b w0) := by show flag _ _ _; rw [hw0]; exact ((h.alloc _).alloc _)
  have HB : Hid (Below w.heap.size w w0) := by show Below _ _ _; rw [hw0]; go_grown
  have BR : Hid (Blk w0 (w.heap.size) #[.int .i64 R.n, .int .i64 R.d] 32) := by show Blk _ _ _ _; rw [hw0]; exact (Blk.new (by simp)).alloc _
  have BR0 : Hid (Blk w0 (w.heap.size + 1) #[.int .i64 0, .int .i64 0] 32) := by show Blk _ _ _ _; rw [hw0]; exact Blk.new (by simp)
  clear h
  go_enter Try.func90, Try.ntmps90
  go_upto_region 1 with fail
  rw [← hw0]
  clear hw0
  have k_R_0 : ∀ x : Kept w0.heap.size w0, x.w.cell? ⟨w.heap.size, 0, none⟩ = some (.int .i64 R.n) := fun x => x.cell BR.out.lt (BR.out.cell (j := 0) rfl)
  have k_R_1 : ∀ x : Kept w0.heap.size w0, x.w.cell? ⟨w.heap.size, 1, none⟩ = some (.int .i64 R.d) := fun x => x.cell BR.out.lt (BR.out.cell (j := 1) rfl)
  refine wp_region_kept w0.heap.size (by kernel_rfl) (by kernel_rfl) ?_
  intro hne
  repeat (go_big_quiet_step (first | (go_at_call 72; exact Calls.kept_of (Nat.le_refl _) (iint _ _))))
  refine wpQuiet_nil ?_
  rintro w1 ⟨xk, hxk⟩
  have hR1 := xk.h
  rw [← hxk] at hR1
  clear hxk xk hne k_R_0 k_R_1
  replace FL : Hid (flag r b w1) := FL.out.below hR1 FL.out.lt
  replace BR : Hid (Blk w1 (w.heap.size) #[.int .i64 R.n, .int .i64 R.d] 32) := BR.out.old hR1
  replace BR0 : Hid (Blk w1 (w.heap.size + 1) #[.int .i64 0, .int .i64 0] 32) := BR0.out.old hR1
  replace HB : Hid (Below w.heap.size w w1) := HB.out.trans (hR1.mono HB.out.size)
  clear hR1
  have rn : r ≠ w.heap.size + 1 := by omega
  have h0 : OwB r (w.heap.size + 1) w1 (w.heap.size + 1) 2 32 w1 := ⟨But.refl _ _ _, Nat.le_refl _, by omega, ⟨_, BR0.out, rfl⟩⟩
  have F0 : flag r b w1 := FL.out
  have hl1 : r < w1.heap.size := FL.out.lt
  have kR0 : ∀ W, OwB r (w.heap.size + 1) w1 (w.heap.size + 1) 2 32 W → W.cell? ⟨w.heap.size, 0, none⟩ = some (.int .i64 R.n) := fun _ h => h.old (by simp <;> omega) (by simp <;> omega) (BR.out.cell (j := 0) rfl)
  have kR1 : ∀ W, OwB r (w.heap.size + 1) w1 (w.heap.size + 1) 2 32 W → W.cell? ⟨w.heap.size, 1, none⟩ = some (.int .i64 R.d) := fun _ h => h.old (by simp <;> omega) (by simp <;> omega) (BR.out.cell (j := 1) rfl)
  have g0 : ∀ W, OwB r (w.heap.size + 1) w1 (w.heap.size + 1) 2 32 W → W.cell? ⟨w.heap.size + 1, 0, none⟩ = some (got W (w.heap.size + 1) 0) := fun _ h => h.cell (by omega)
  have g1 : ∀ W, OwB r (w.heap.size + 1) w1 (w.heap.size + 1) 2 32 W → W.cell? ⟨w.heap.size + 1, 1, none⟩ = some (got W (w.heap.size + 1) 1) := fun _ h => h.cell (by omega)
  have gf : ∀ W j, OwB r (w.heap.size + 1) w1 (w.heap.size + 1) 2 32 W → W.frozen? ⟨w.heap.size + 1, j, none⟩ = false := fun _ j h => h.frozen j
  go_upto_region 3 with fail
  go_region_held (fun W => OwB r (w.heap.size + 1) w1 (w.heap.size + 1) 2 32 W) (first | with_reducible assumption | with_reducible exact OwB.drew ‹_› | with_reducible exact OwB.set (OwB.set ‹_› _ _) _ _)
    (first | (go_at_call 72; refine Calls.mono (iint_two _) ?_; rintro e wz ⟨rfl, hb2⟩; have F1 := flag.below (r := r) (by (repeat' (first | (with_reducible assumption) | (with_reducible apply flag.set) | (with_reducible apply flag.alloc) | (with_reducible apply flag.drew) | (with_reducible apply flag.setOther) | omega | (simp; omega) | (simp; done)))) hb2 (by first | omega | (simp; omega) | (simp; done)); have hR1 := OwB.call ‹_› (But.of_below hb2); have hlz : r < wz.heap.size := F1.lt) | (go_at_call 110; refine Calls.mono (rquot _ _ r _ _ (by (repeat' (first | (with_reducible assumption) | (with_reducible apply flag.set) | (with_reducible apply flag.alloc) | (with_reducible apply flag.drew) | (with_reducible apply flag.setOther) | omega | (simp; omega) | (simp; done))))) ?_; rintro e wz ⟨rfl, hb1, F1⟩; have hR1 := OwB.call ‹_› hb1))
  have c0 := g0 _ hR1
  have c1 := g1 _ hR1
  clear kR0 kR1 g0 g1 gf
  repeat go_step
  refine bodyPost_ret (v := .agg #[.int .i64 (divQ two R).n, .int .i64 (divQ two R).d]) (by simp [results, Try.results90, go_sem, c0, c1] <;> (repeat' (first | rfl | apply And.intro))) rfl ⟨rfl, ?_, ?_⟩
  · exact (But.of_below HB.out).trans ((OwB.set (OwB.set hR1 0 _) 1 _).but.mono (by omega))
  · exact OwB.flag (OwB.set hR1 0 _) (OwB.flag hR1 (F1) 0 _) 1 _
theorem iterm (L R : Q) (r : Nat) (b : Bool) (w : World) (h : flag r b w) (hR : R.ok = true) : Calls Try.prog 68 #[.agg #[.int .i64 L.n, .int .i64 L.d], .agg #[.int .i64 R.n, .int .i64 R.d], .pointer (some ⟨r, 0, none⟩)] w fun e w' => e = .returned (.agg #[.int .i64 (sdQ L R).n, .int .i64 (sdQ L R).d]) ∧ But r w.heap.size w w' ∧ flag r (b || !sdK L R) w' := by
  by_cases hn : R.n = 0
  · rw [(sd_z (L := L) hn).1, (sd_z (L := L) hn).2, show (b || !true) = b by cases b <;> rfl]
    exact iterm_0 L R r b w h hR hn
  · rw [← side_flag L R b hn, (sd_n hn).2]
    exact iterm_1 L R r b w h hn
end Go.Proofs.Ytkkajcdjkfbcgaa
