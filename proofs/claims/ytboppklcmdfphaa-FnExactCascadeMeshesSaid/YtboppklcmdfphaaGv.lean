/- Guides: a row multiplied, two rows coupled: contracts. -/
import Derived.Test.YtboppklcmdfphaaGu
import Derived.Test.YtboppklcmdfphaaRw
import Derived.Test.YtboppklcmdfphaaMf
import Derived.BigQuiet
namespace Go.Proofs.Ytboppklcmdfphaa
open Go.RowKit
set_option linter.unusedVariables false
set_option linter.unusedSimpArgs false
theorem timesB_any (a b : Int) (w : World) : Calls Try.prog 111 #[.int .i64 a, .int .i64 b] w fun e w' => e = .returned (.int .i64 (Rm.mulM a b)) ∧ Below w.heap.size w w' := (times_any a b w).mono fun e w' ⟨h, k⟩ => ⟨h, k ▸ Below.refl _ _⟩
theorem plusB_any (a b : Int) (w : World) : Calls Try.prog 137 #[.int .i64 a, .int .i64 b] w fun e w' => e = .returned (.int .i64 (Rm.addM a b)) ∧ Below w.heap.size w w' := (plus_any a b w).mono fun e w' ⟨h, k⟩ => ⟨h, k ▸ Below.refl _ _⟩
theorem residueB_any (a : Int) (w : World) : Calls Try.prog 64 #[.int .i64 a] w fun e w' => e = .returned (.int .i64 (Rm.md a)) ∧ Below w.heap.size w w' := (residue_any a w).mono fun e w' ⟨h, k⟩ => ⟨h, k ▸ Below.refl _ _⟩
set_option maxRecDepth 20000 in
set_option maxHeartbeats 1600000 in
theorem coupler_any (g : Ce) (w : World) : Calls Try.prog 106 #[.agg #[.int .i64 g.i, .int .i64 g.j, .int .i64 g.a, .int .i64 g.b, .int .i64 g.c, .int .i64 g.d]] w fun e w' =>
    e = .returned (.agg #[.int .i64 g.i, .int .i64 g.j, .int .i64 (Rm.md g.a), .int .i64 (Rm.md g.b), .int .i64 (Rm.md g.c), .int .i64 (Rm.md g.d)]) ∧ Below w.heap.size w w' := by
  go_enter Try.func106, Try.ntmps106
  go_wp2_with fail
  obtain ⟨X, hX⟩ : ∃ X, X = (w.alloc (.cells #[.int .i64 g.i, .int .i64 g.j, .int .i64 g.a, .int .i64 g.b, .int .i64 g.c, .int .i64 g.d] 77)).alloc (.cells #[.int .i64 0, .int .i64 0, .int .i64 0, .int .i64 0, .int .i64 0, .int .i64 0] 111) := ⟨_, rfl⟩
  have BX : Hid (Blk X w.heap.size #[.int .i64 g.i, .int .i64 g.j, .int .i64 g.a, .int .i64 g.b, .int .i64 g.c, .int .i64 g.d] 77 ∧ Blk X (w.heap.size + 1) #[.int .i64 0, .int .i64 0, .int .i64 0, .int .i64 0, .int .i64 0, .int .i64 0] 111 ∧ Below w.heap.size w X) := by
    rw [hX]; exact ⟨(Blk.new rfl).alloc _, Blk.new (by simp), ((Below.refl _ _).alloc (Nat.le_refl _) _).alloc (by simp) _⟩
  rw [← hX]
  clear hX
  have k0 : ∀ x : Kept X.heap.size X, x.w.cell? ⟨w.heap.size, 0, none⟩ = some (.int .i64 g.i) := fun x => x.cell BX.out.1.lt (BX.out.1.cell (j := 0) rfl)
  have k1 : ∀ x : Kept X.heap.size X, x.w.cell? ⟨w.heap.size, 1, none⟩ = some (.int .i64 g.j) := fun x => x.cell BX.out.1.lt (BX.out.1.cell (j := 1) rfl)
  have k2 : ∀ x : Kept X.heap.size X, x.w.cell? ⟨w.heap.size, 2, none⟩ = some (.int .i64 g.a) := fun x => x.cell BX.out.1.lt (BX.out.1.cell (j := 2) rfl)
  have k3 : ∀ x : Kept X.heap.size X, x.w.cell? ⟨w.heap.size, 3, none⟩ = some (.int .i64 g.b) := fun x => x.cell BX.out.1.lt (BX.out.1.cell (j := 3) rfl)
  have k4 : ∀ x : Kept X.heap.size X, x.w.cell? ⟨w.heap.size, 4, none⟩ = some (.int .i64 g.c) := fun x => x.cell BX.out.1.lt (BX.out.1.cell (j := 4) rfl)
  have k5 : ∀ x : Kept X.heap.size X, x.w.cell? ⟨w.heap.size, 5, none⟩ = some (.int .i64 g.d) := fun x => x.cell BX.out.1.lt (BX.out.1.cell (j := 5) rfl)
  refine wp_region_last' X.heap.size (by kernel_rfl) rfl rfl (by kernel_rfl) (lastOk_of (by kernel_rfl)) ?_
  intro hne
  dsimp only [List.dropLast]
  repeat (go_big_quiet_step (first | (go_at_call 64; exact Calls.kept_of (Nat.le_refl _) (residueB_any _ _))))
  refine wpQuiet_nil ?_
  rintro u ⟨xk, hxk⟩
  have hR1 := xk.h
  rw [← hxk] at hR1
  clear hxk xk hne k0 k1 k2 k3 k4 k5
  have HR : Hid (Blk u (w.heap.size + 1) #[.int .i64 0, .int .i64 0, .int .i64 0, .int .i64 0, .int .i64 0, .int .i64 0] 111 ∧ Below w.heap.size w u) := ⟨BX.out.2.1.old hR1, BX.out.2.2.trans (hR1.mono BX.out.2.2.size)⟩
  clear hR1
  have r0 := HR.out.1.cell (j := 0) rfl
  have r1 := HR.out.1.cell (j := 1) rfl
  have r2 := HR.out.1.cell (j := 2) rfl
  have r3 := HR.out.1.cell (j := 3) rfl
  have r4 := HR.out.1.cell (j := 4) rfl
  have r5 := HR.out.1.cell (j := 5) rfl
  have rf := HR.out.1.frozen
  go_wp2
  refine bodyPost_ret (res_of (cs := #[.int .i64 g.i, .int .i64 g.j, .int .i64 (Rm.md g.a), .int .i64 (Rm.md g.b), .int .i64 (Rm.md g.c), .int .i64 (Rm.md g.d)]) Try.results106 rfl ((((((HR.out.1.set 0 _ rfl).set 1 _ rfl).set 2 _ rfl).set 3 _ rfl).set 4 _ rfl).set 5 _ rfl) Try.underlying111 (by kernel_rfl)) rfl ⟨rfl, ?_⟩
  exact (((((HR.out.2.setCell (by simp) _).setCell (by simp) _).setCell (by simp) _).setCell (by simp) _).setCell (by simp) _).setCell (by simp) _
set_option maxRecDepth 20000 in
set_option maxHeartbeats 1600000 in
theorem multiply_any {lo hi : Nat} {w : World} {m : Lie} {n wd : Nat} {F : Rm.Mx} (h : Gm lo hi w m n (fun _ => wd) F) (i : Nat) (by0 : Int) (hin : i < n) (hn : n ≤ 1000000) (hw : wd ≤ 1000000) :
    Calls Try.prog 104 #[.slice (some ⟨m.b, 0, none⟩) n m.cap, .int .i64 i, .int .i64 by0] w fun e w' => e = .returned (.tuple #[]) ∧ Gm lo hi w' m n (fun _ => wd) (fun r c => if r = i then Rm.mulM (F r c) by0 else F r c) ∧ Within lo hi w w' ∧ w'.heap.size = w.heap.size := by
  have HM : Hid (Gm lo hi w m n (fun _ => wd) F) := h
  have g1 : w.cell? ⟨m.b, i, none⟩ = some (.slice (some ⟨m.bs i, m.os i, none⟩) wd (m.cs i)) := h.cellRow hin
  clear h
  go_enter Try.func104, Try.ntmps104
  go_wp2_with fail
  clear g1
  go_loopw [12] (fun s wr => ∃ k : Nat, k ≤ wd ∧ s = .int .i64 k ∧ Hid (Gm lo hi wr m n (fun _ => wd) (fun r c => if r = i ∧ c < k then Rm.mulM (F r c) by0 else F r c) ∧ Within lo hi w wr ∧ wr.heap.size = w.heap.size)) (fun s _ => wd - (intOf s).toNat)
  case atStart => exact ⟨0, Nat.zero_le _, rfl, HM.out.congr (fun r c _ _ => by simp), Within.refl _ _ _, rfl⟩
  case round =>
    obtain ⟨k, hk, rfl, HS⟩ := hrel
    by_cases hkn : k < wd
    · have g1 : wr.cell? ⟨m.b, i, none⟩ = some (.slice (some ⟨m.bs i, m.os i, none⟩) wd (m.cs i)) := HS.out.1.cellRow hin
      have g2 : wr.cell? ⟨m.bs i, m.os i + k, none⟩ = some (.int .i64 (F i k)) := by have := HS.out.1.cellAt hin hkn; simpa using this
      have g3 : wr.frozen? ⟨m.bs i, m.os i + k, none⟩ = false := (HS.out.1.row i hin).frozen _
      have HN : ∀ q, Hid (Gm lo hi ((wr.drewN q).setCell ⟨m.bs i, m.os i + k, none⟩ (.int .i64 (Rm.mulM (F i k) by0))) m n (fun _ => wd) (fun r c => if r = i ∧ c < k + 1 then Rm.mulM (F r c) by0 else F r c) ∧ Within lo hi w ((wr.drewN q).setCell ⟨m.bs i, m.os i + k, none⟩ (.int .i64 (Rm.mulM (F i k) by0))) ∧ ((wr.drewN q).setCell ⟨m.bs i, m.os i + k, none⟩ (.int .i64 (Rm.mulM (F i k) by0))).heap.size = w.heap.size) := fun q => by
        obtain ⟨hs, hb, hz⟩ := HS.out
        have hsq : Gm lo hi (wr.drewN q) m n (fun _ => wd) (fun r c => if r = i ∧ c < k then Rm.mulM (F r c) by0 else F r c) := hs.keep fun _ _ _ => rfl
        have hbq : Within lo hi w (wr.drewN q) := hb.trans ⟨below_drewN (Below.refl _ _) q, fun _ _ _ => rfl⟩
        refine ⟨(hsq.set hin hkn _).congr fun r c hr hc => ?_, hbq.setCell (p := ⟨m.bs i, m.os i + k, none⟩) (hs.rlo i hin) (hs.rhi i hin) _, by rw [World.size_setCell]; exact hz⟩
        by_cases e : r = i ∧ c = k
        · obtain ⟨rfl, rfl⟩ := e; simp
        · by_cases e1 : r = i
          · subst e1
            have : c ≠ k := fun e' => e ⟨rfl, e'⟩
            by_cases e2 : c < k
            · simp [this, e2, Nat.lt_succ_of_lt e2]
            · have e3 : ¬ c < k + 1 := by omega
              simp [this, e2, e3]
          · simp [e1]
      clear HS
      have hnil := nil_times
      have hmeth := mrun_times
      go_wp2_with fail
      go_region_with (first | (go_at_call 111; refine (times_any _ _ _).mono ?_; rintro e w1 ⟨rfl, rfl⟩))
      all_goals
        go_wp2
        exact ⟨⟨k + 1, by omega, by simp, HN 1⟩, by simp [intOf]; omega⟩
    · obtain rfl : k = wd := by omega
      go_wp2
      go_end0
      exact ⟨rfl, HS.out.1.congr fun r c _ hc => by simp [hc], HS.out.2⟩
end Go.Proofs.Ytboppklcmdfphaa
