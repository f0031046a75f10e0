/- A ray behind one part, by the program. -/
import Derived.Test.YtnikgmjjkdhjbaaTm
import Derived.Test.YtnikgmjjkdhjbaaRo
import Derived.Handy
import Derived.Deep.RegionHeld3
import Derived.Deep.DeepCutAuto
import Derived.Deep.RegionLaw
namespace Go.Proofs.Ytnikgmjjkdhjbaa
open Go.RowKit
set_option linter.unusedVariables false
set_option linter.unusedSimpArgs false
theorem Blk.drew {W : World} {b : Nat} {cs : Array Value} {t : TypeId} (h : Blk W b cs t) : Blk W.drew b cs t := h
theorem But.blk {r B : Nat} {X W : World} {b : Nat} {cs : Array Value} {t : TypeId} (h : But r B X W) (k : Blk X b cs t) (hb : b < B) (hr : b ≠ r) : Blk W b cs t := (h.block b hb hr).trans k
set_option maxRecDepth 20000 in
set_option maxHeartbeats 1600000 in
theorem itimes (x y : Q) (r : Nat) (b : Bool) (w : World) (h : flag r b w) :
    Calls Try.prog 126 #[.agg #[.int .i64 x.n, .int .i64 x.d], .agg #[.int .i64 y.n, .int .i64 y.d], .pointer (some ⟨r, 0, none⟩)] w fun e w' => e = .returned (.agg #[.int .i64 (mulQ x y).n, .int .i64 (mulQ x y).d]) ∧ But r w.heap.size w w' ∧ flag r (b || !mulK x y) w' := by
  have hl := h.lt
  obtain ⟨w2, hw2⟩ : ∃ W, W = ((w.alloc (.cells #[.int .i64 x.n, .int .i64 x.d] 134)).alloc (.cells #[.int .i64 y.n, .int .i64 y.d] 25)).alloc (.cells #[.int .i64 0, .int .i64 0] 25) := ⟨_, rfl⟩
  have F2 : Hid (flag r b w2) := by show flag _ _ _; rw [hw2]; exact ((h.alloc _).alloc _).alloc _
  have B2 : Hid (But r w.heap.size w w2) := by show But _ _ _ _; rw [hw2]; exact (((But.refl _ _ _).alloc (Nat.le_refl _) _).alloc (by simp) _).alloc (by simp <;> omega) _
  have R2 : Hid (Blk w2 (w.heap.size + 1 + 1) #[.int .i64 0, .int .i64 0] 25) := by show Blk _ _ _ _; rw [hw2]; exact Blk.new (by simp)
  clear h
  go_enter Try.func126, Try.ntmps126
  go_wp2_with fail
  rw [← hw2]
  refine (rprod x y r b w2 F2.out).mono ?_
  rintro e w3 ⟨rfl, hb, hF⟩
  have R3 : Hid (Blk w3 (w.heap.size + 1 + 1) #[.int .i64 0, .int .i64 0] 25) := But.blk hb R2.out R2.out.lt (by omega)
  have c0 := R3.out.cell (j := 0) (v := .int .i64 0) rfl
  have c1 := R3.out.cell (j := 1) (v := .int .i64 0) rfl
  have f0 := R3.out.frozen 0
  have f1 := R3.out.frozen 1
  have HB : Hid (But r w.heap.size w w3) := B2.out.call hb B2.out.size
  have HF : Hid (flag r (b || !mulK x y) w3) := hF
  clear hb hF hw2 F2 B2 R2
  go_wp2
  refine bodyPost_ret (v := .agg #[.int .i64 (mulQ x y).n, .int .i64 (mulQ x y).d]) (by simp [results, Try.results126, go_sem, c0, c1]) rfl ⟨rfl, (HB.out.setCell (by simp <;> omega) _).setCell (by simp <;> omega) _, (HF.out.setOther (by simp; omega) _).setOther (by simp; omega) _⟩
set_option maxRecDepth 20000 in
set_option maxHeartbeats 6400000 in
theorem igap (x : Q) (s : Ry) (r : Nat) (b : Bool) (w : World) (h : flag r b w) :
    Calls Try.prog 127 #[.agg #[.int .i64 x.n, .int .i64 x.d], .agg #[.int .i64 s.Y.n, .int .i64 s.Y.d, .int .i64 s.U.n, .int .i64 s.U.d], .pointer (some ⟨r, 0, none⟩)] w fun e w' => e = .returned (.agg #[.int .i64 (addQ s.Y (mulQ x s.U)).n, .int .i64 (addQ s.Y (mulQ x s.U)).d, .int .i64 s.U.n, .int .i64 s.U.d]) ∧ But r w.heap.size w w' ∧ flag r ((b || !mulK x s.U) || !addK s.Y (mulQ x s.U)) w' := by
  have hl := h.lt
  obtain ⟨Z, hZ⟩ : ∃ W, W = ((w.alloc (.cells #[.int .i64 x.n, .int .i64 x.d] 136)).alloc (.cells #[.int .i64 s.Y.n, .int .i64 s.Y.d, .int .i64 s.U.n, .int .i64 s.U.d] 70)).alloc (.cells #[.int .i64 0, .int .i64 0, .int .i64 0, .int .i64 0] 70) := ⟨_, rfl⟩
  have F0 : Hid (flag r b Z) := by show flag _ _ _; rw [hZ]; exact ((h.alloc _).alloc _).alloc _
  have B0 : Hid (But r w.heap.size w Z) := by show But _ _ _ _; rw [hZ]; exact (((But.refl _ _ _).alloc (Nat.le_refl _) _).alloc (by simp) _).alloc (by simp <;> omega) _
  have Xa : Hid (Blk Z w.heap.size #[.int .i64 x.n, .int .i64 x.d] 136) := by show Blk _ _ _ _; rw [hZ]; exact ((Blk.new rfl).alloc _).alloc _
  have Ya : Hid (Blk Z (w.heap.size + 1) #[.int .i64 s.Y.n, .int .i64 s.Y.d, .int .i64 s.U.n, .int .i64 s.U.d] 70) := by show Blk _ _ _ _; rw [hZ]; exact (Blk.new (by simp)).alloc _
  have Ra : Hid (Blk Z (w.heap.size + 1 + 1) #[.int .i64 0, .int .i64 0, .int .i64 0, .int .i64 0] 70) := by show Blk _ _ _ _; rw [hZ]; exact Blk.new (by simp)
  have hz : w.heap.size + 1 + 1 < Z.heap.size := Ra.out.lt
  have hr0 : w.heap.size ≠ r := by omega
  have hr1 : w.heap.size + 1 ≠ r := by omega
  have hr2 : w.heap.size + 1 + 1 ≠ r := by omega
  clear h
  go_enter Try.func127, Try.ntmps127
  go_upto_region 1 with fail
  rw [← hZ]
  clear hZ
  have k0 : ∀ W, But r (w.heap.size + 1 + 1) Z W → W.cell? ⟨w.heap.size + 1, 0, none⟩ = some (.int .i64 s.Y.n) := fun W hb => (hb.cell (p := ⟨w.heap.size + 1, 0, none⟩) (by show w.heap.size + 1 < _; omega) (by simpa using hr1)).trans (Ya.out.cell (j := 0) rfl)
  have k1 : ∀ W, But r (w.heap.size + 1 + 1) Z W → W.cell? ⟨w.heap.size + 1, 1, none⟩ = some (.int .i64 s.Y.d) := fun W hb => (hb.cell (p := ⟨w.heap.size + 1, 1, none⟩) (by show w.heap.size + 1 < _; omega) (by simpa using hr1)).trans (Ya.out.cell (j := 1) rfl)
  have k2 : ∀ W, But r (w.heap.size + 1 + 1) Z W → W.cell? ⟨w.heap.size + 1, 2, none⟩ = some (.int .i64 s.U.n) := fun W hb => (hb.cell (p := ⟨w.heap.size + 1, 2, none⟩) (by show w.heap.size + 1 < _; omega) (by simpa using hr1)).trans (Ya.out.cell (j := 2) rfl)
  have k3 : ∀ W, But r (w.heap.size + 1 + 1) Z W → W.cell? ⟨w.heap.size + 1, 3, none⟩ = some (.int .i64 s.U.d) := fun W hb => (hb.cell (p := ⟨w.heap.size + 1, 3, none⟩) (by show w.heap.size + 1 < _; omega) (by simpa using hr1)).trans (Ya.out.cell (j := 3) rfl)
  have l0 : ∀ W, But r (w.heap.size + 1 + 1) Z W → W.cell? ⟨w.heap.size, 0, none⟩ = some (.int .i64 x.n) := fun W hb => (hb.cell (p := ⟨w.heap.size, 0, none⟩) (by show w.heap.size < _; omega) (by simpa using hr0)).trans (Xa.out.cell (j := 0) rfl)
  have l1 : ∀ W, But r (w.heap.size + 1 + 1) Z W → W.cell? ⟨w.heap.size, 1, none⟩ = some (.int .i64 x.d) := fun W hb => (hb.cell (p := ⟨w.heap.size, 1, none⟩) (by show w.heap.size < _; omega) (by simpa using hr0)).trans (Xa.out.cell (j := 1) rfl)
  have s0 : But r (w.heap.size + 1 + 1) Z Z := But.refl _ _ _
  go_region_held3 (fun W => But r (w.heap.size + 1 + 1) Z W) (repeat' (first | (with_reducible assumption) | (with_reducible refine But.drew ?_) | (with_reducible refine But.setCell ?_ ?_ _) | go_size)) (first
    | (go_at_call 126; refine (itimes x s.U r b _ F0.out.drew).mono ?_; rintro e w1 ⟨rfl, hb1, hF1⟩; have B1 : Hid (But r w.heap.size w w1) := B0.out.drew.call hb1 B0.out.size; have F1 : Hid (flag r (b || !mulK x s.U) w1) := hF1; have z1 : w.heap.size + 1 + 1 < w1.heap.size := Nat.lt_of_lt_of_le hz hb1.size; have s1 : But r (w.heap.size + 1 + 1) Z w1 := (But.refl r _ Z).drew.trans (hb1.mono (Nat.le_of_lt hz)); have Rb : Hid (Blk w1 (w.heap.size + 1 + 1) #[.int .i64 0, .int .i64 0, .int .i64 0, .int .i64 0] 70) := But.blk hb1 Ra.out.drew Ra.out.lt hr2)
    | (go_at_call 63; refine (rsum s.Y (mulQ x s.U) r (b || !mulK x s.U) _ F1.out).mono ?_; rintro e w2 ⟨rfl, hb2, hF2⟩; have B2 : Hid (But r w.heap.size w w2) := B1.out.call hb2 B1.out.size; have F2 : Hid (flag r ((b || !mulK x s.U) || !addK s.Y (mulQ x s.U)) w2) := hF2; have z2 : w.heap.size + 1 + 1 < w2.heap.size := Nat.lt_of_lt_of_le z1 hb2.size; have s2 : But r (w.heap.size + 1 + 1) Z w2 := s1.trans (hb2.mono (Nat.le_of_lt z1)); have Rc : Hid (Blk w2 (w.heap.size + 1 + 1) #[.int .i64 0, .int .i64 0, .int .i64 0, .int .i64 0] 70) := But.blk hb2 Rb.out Rb.out.lt hr2; have cr0 : w2.cell? ⟨w.heap.size + 1 + 1, 0, none⟩ = some (.int .i64 0) := Rc.out.cell (j := 0) rfl; have cf0 := Rc.out.frozen 0; have cr1 : w2.cell? ⟨w.heap.size + 1 + 1, 1, none⟩ = some (.int .i64 0) := Rc.out.cell (j := 1) rfl; have cf1 := Rc.out.frozen 1; have cr2 : w2.cell? ⟨w.heap.size + 1 + 1, 2, none⟩ = some (.int .i64 0) := Rc.out.cell (j := 2) rfl; have cf2 := Rc.out.frozen 2; have cr3 : w2.cell? ⟨w.heap.size + 1 + 1, 3, none⟩ = some (.int .i64 0) := Rc.out.cell (j := 3) rfl; have cf3 := Rc.out.frozen 3))
  all_goals
    go_wp2
    refine bodyPost_ret (v := .agg #[.int .i64 (addQ s.Y (mulQ x s.U)).n, .int .i64 (addQ s.Y (mulQ x s.U)).d, .int .i64 s.U.n, .int .i64 s.U.d]) (by simp [results, Try.results127, go_sem, cr0, cr1, cr2, cr3]) rfl ⟨rfl, ?_, ?_⟩
    · exact (((B2.out.setCell (by simp <;> omega) _).setCell (by simp <;> omega) _).setCell (by simp <;> omega) _).setCell (by simp <;> omega) _
    · exact (((F2.out.setOther (by simp; omega) _).setOther (by simp; omega) _).setOther (by simp; omega) _).setOther (by simp; omega) _
set_option maxRecDepth 20000 in
set_option maxHeartbeats 6400000 in
theorem ipow (x : Q) (s : Ry) (r : Nat) (b : Bool) (w : World) (h : flag r b w) :
    Calls Try.prog 129 #[.agg #[.int .i64 x.n, .int .i64 x.d], .agg #[.int .i64 s.Y.n, .int .i64 s.Y.d, .int .i64 s.U.n, .int .i64 s.U.d], .pointer (some ⟨r, 0, none⟩)] w fun e w' => e = .returned (.agg #[.int .i64 s.Y.n, .int .i64 s.Y.d, .int .i64 (subQ s.U (mulQ x s.Y)).n, .int .i64 (subQ s.U (mulQ x s.Y)).d]) ∧ But r w.heap.size w w' ∧ flag r ((b || !mulK x s.Y) || !subK s.U (mulQ x s.Y)) w' := by
  have hl := h.lt
  obtain ⟨Z, hZ⟩ : ∃ W, W = ((w.alloc (.cells #[.int .i64 x.n, .int .i64 x.d] 137)).alloc (.cells #[.int .i64 s.Y.n, .int .i64 s.Y.d, .int .i64 s.U.n, .int .i64 s.U.d] 70)).alloc (.cells #[.int .i64 0, .int .i64 0, .int .i64 0, .int .i64 0] 70) := ⟨_, rfl⟩
  have F0 : Hid (flag r b Z) := by show flag _ _ _; rw [hZ]; exact ((h.alloc _).alloc _).alloc _
  have B0 : Hid (But r w.heap.size w Z) := by show But _ _ _ _; rw [hZ]; exact (((But.refl _ _ _).alloc (Nat.le_refl _) _).alloc (by simp) _).alloc (by simp <;> omega) _
  have Xa : Hid (Blk Z w.heap.size #[.int .i64 x.n, .int .i64 x.d] 137) := by show Blk _ _ _ _; rw [hZ]; exact ((Blk.new rfl).alloc _).alloc _
  have Ya : Hid (Blk Z (w.heap.size + 1) #[.int .i64 s.Y.n, .int .i64 s.Y.d, .int .i64 s.U.n, .int .i64 s.U.d] 70) := by show Blk _ _ _ _; rw [hZ]; exact (Blk.new (by simp)).alloc _
  have Ra : Hid (Blk Z (w.heap.size + 1 + 1) #[.int .i64 0, .int .i64 0, .int .i64 0, .int .i64 0] 70) := by show Blk _ _ _ _; rw [hZ]; exact Blk.new (by simp)
  have hz : w.heap.size + 1 + 1 < Z.heap.size := Ra.out.lt
  have hr0 : w.heap.size ≠ r := by omega
  have hr1 : w.heap.size + 1 ≠ r := by omega
  have hr2 : w.heap.size + 1 + 1 ≠ r := by omega
  clear h
  go_enter Try.func129, Try.ntmps129
  go_upto_region 1 with fail
  rw [← hZ]
  clear hZ
  have k0 : ∀ W, But r (w.heap.size + 1 + 1) Z W → W.cell? ⟨w.heap.size + 1, 0, none⟩ = some (.int .i64 s.Y.n) := fun W hb => (hb.cell (p := ⟨w.heap.size + 1, 0, none⟩) (by show w.heap.size + 1 < _; omega) (by simpa using hr1)).trans (Ya.out.cell (j := 0) rfl)
  have k1 : ∀ W, But r (w.heap.size + 1 + 1) Z W → W.cell? ⟨w.heap.size + 1, 1, none⟩ = some (.int .i64 s.Y.d) := fun W hb => (hb.cell (p := ⟨w.heap.size + 1, 1, none⟩) (by show w.heap.size + 1 < _; omega) (by simpa using hr1)).trans (Ya.out.cell (j := 1) rfl)
  have k2 : ∀ W, But r (w.heap.size + 1 + 1) Z W → W.cell? ⟨w.heap.size + 1, 2, none⟩ = some (.int .i64 s.U.n) := fun W hb => (hb.cell (p := ⟨w.heap.size + 1, 2, none⟩) (by show w.heap.size + 1 < _; omega) (by simpa using hr1)).trans (Ya.out.cell (j := 2) rfl)
  have k3 : ∀ W, But r (w.heap.size + 1 + 1) Z W → W.cell? ⟨w.heap.size + 1, 3, none⟩ = some (.int .i64 s.U.d) := fun W hb => (hb.cell (p := ⟨w.heap.size + 1, 3, none⟩) (by show w.heap.size + 1 < _; omega) (by simpa using hr1)).trans (Ya.out.cell (j := 3) rfl)
  have l0 : ∀ W, But r (w.heap.size + 1 + 1) Z W → W.cell? ⟨w.heap.size, 0, none⟩ = some (.int .i64 x.n) := fun W hb => (hb.cell (p := ⟨w.heap.size, 0, none⟩) (by show w.heap.size < _; omega) (by simpa using hr0)).trans (Xa.out.cell (j := 0) rfl)
  have l1 : ∀ W, But r (w.heap.size + 1 + 1) Z W → W.cell? ⟨w.heap.size, 1, none⟩ = some (.int .i64 x.d) := fun W hb => (hb.cell (p := ⟨w.heap.size, 1, none⟩) (by show w.heap.size < _; omega) (by simpa using hr0)).trans (Xa.out.cell (j := 1) rfl)
  have s0 : But r (w.heap.size + 1 + 1) Z Z := But.refl _ _ _
  go_region_held3 (fun W => But r (w.heap.size + 1 + 1) Z W) (repeat' (first | (with_reducible assumption) | (with_reducible refine But.drew ?_) | (with_reducible refine But.setCell ?_ ?_ _) | go_size)) (first
    | (go_at_call 126; refine (itimes x s.Y r b _ F0.out.drew).mono ?_; rintro e w1 ⟨rfl, hb1, hF1⟩; have B1 : Hid (But r w.heap.size w w1) := B0.out.drew.call hb1 B0.out.size; have F1 : Hid (flag r (b || !mulK x s.Y) w1) := hF1; have z1 : w.heap.size + 1 + 1 < w1.heap.size := Nat.lt_of_lt_of_le hz hb1.size; have s1 : But r (w.heap.size + 1 + 1) Z w1 := (But.refl r _ Z).drew.trans (hb1.mono (Nat.le_of_lt hz)); have Rb : Hid (Blk w1 (w.heap.size + 1 + 1) #[.int .i64 0, .int .i64 0, .int .i64 0, .int .i64 0] 70) := But.blk hb1 Ra.out.drew Ra.out.lt hr2)
    | (go_at_call 66; refine (rdiff s.U (mulQ x s.Y) r (b || !mulK x s.Y) _ F1.out).mono ?_; rintro e w2 ⟨rfl, hb2, hF2⟩; have B2 : Hid (But r w.heap.size w w2) := B1.out.call hb2 B1.out.size; have F2 : Hid (flag r ((b || !mulK x s.Y) || !subK s.U (mulQ x s.Y)) w2) := hF2; have z2 : w.heap.size + 1 + 1 < w2.heap.size := Nat.lt_of_lt_of_le z1 hb2.size; have s2 : But r (w.heap.size + 1 + 1) Z w2 := s1.trans (hb2.mono (Nat.le_of_lt z1)); have Rc : Hid (Blk w2 (w.heap.size + 1 + 1) #[.int .i64 0, .int .i64 0, .int .i64 0, .int .i64 0] 70) := But.blk hb2 Rb.out Rb.out.lt hr2; have cr0 : w2.cell? ⟨w.heap.size + 1 + 1, 0, none⟩ = some (.int .i64 0) := Rc.out.cell (j := 0) rfl; have cf0 := Rc.out.frozen 0; have cr1 : w2.cell? ⟨w.heap.size + 1 + 1, 1, none⟩ = some (.int .i64 0) := Rc.out.cell (j := 1) rfl; have cf1 := Rc.out.frozen 1; have cr2 : w2.cell? ⟨w.heap.size + 1 + 1, 2, none⟩ = some (.int .i64 0) := Rc.out.cell (j := 2) rfl; have cf2 := Rc.out.frozen 2; have cr3 : w2.cell? ⟨w.heap.size + 1 + 1, 3, none⟩ = some (.int .i64 0) := Rc.out.cell (j := 3) rfl; have cf3 := Rc.out.frozen 3))
  all_goals
    go_wp2
    refine bodyPost_ret (v := .agg #[.int .i64 s.Y.n, .int .i64 s.Y.d, .int .i64 (subQ s.U (mulQ x s.Y)).n, .int .i64 (subQ s.U (mulQ x s.Y)).d]) (by simp [results, Try.results129, go_sem, cr0, cr1, cr2, cr3]) rfl ⟨rfl, ?_, ?_⟩
    · exact (((B2.out.setCell (by simp <;> omega) _).setCell (by simp <;> omega) _).setCell (by simp <;> omega) _).setCell (by simp <;> omega) _
    · exact (((F2.out.setOther (by simp; omega) _).setOther (by simp; omega) _).setOther (by simp; omega) _).setOther (by simp; omega) _
end Go.Proofs.Ytnikgmjjkdhjbaa
