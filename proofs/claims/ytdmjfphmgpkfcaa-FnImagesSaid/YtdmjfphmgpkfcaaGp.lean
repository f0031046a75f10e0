/- A gap's system, as MatrixOf tells it; the image's own fraction is right. -/
import Derived.Test.YtdmjfphmgpkfcaaIa
import Derived.Test.YtdmjfphmgpkfcaaPq
namespace Go.Proofs.Ytdmjfphmgpkfcaa
open Go.RowKit
set_option linter.unusedVariables false
theorem gap_join {x : Q} (hx : x.ok = true) : jC unitM (gapM x) = 0 ∧ joinM unitM (gapM x) = gapM x := by
  have hg : (gapM x).ok = true := by unfold Mx.ok; rw [show (gapM x).A = one from rfl, show (gapM x).B = x from rfl, show (gapM x).C = nil from rfl, show (gapM x).D = one from rfl, hx]; rfl
  have hu : unitM.ok = true := by decide
  have a1 := two_at (a := one) (b := one) (c := x) (d := nil) (mul_one one_ok) (mul_nil hx) one_ok
  have a2 := two_at' (a := one) (b := nil) (c := x) (d := one) (one_mul nil_ok) (mul_one hx) hx
  have a3 := two_at (a := nil) (b := one) (c := one) (d := nil) (nil_mul one_ok) (one_mul nil_ok) nil_ok
  have a4 := two_at' (a := nil) (b := nil) (c := one) (d := one) (nil_mul nil_ok) (one_mul one_ok) one_ok
  have j0 : jC unitM (gapM x) = 0 := by
    unfold jC
    rw [hg, hu, show jKA unitM (gapM x) = true from a1.1, show jKB unitM (gapM x) = true from a2.1, show jKC unitM (gapM x) = true from a3.1, show jKD unitM (gapM x) = true from a4.1]; rfl
  refine ⟨j0, ?_⟩
  unfold joinM sel
  rw [if_pos j0, if_pos j0, if_pos j0, if_pos j0]
  rw [show jQA unitM (gapM x) = one from a1.2, show jQB unitM (gapM x) = x from a2.2, show jQC unitM (gapM x) = nil from a3.2, show jQD unitM (gapM x) = one from a4.2]
theorem gap_one {x : Q} (hx : x.ok = true) : mC (fun _ => (⟨1, x⟩ : Pt)) 1 = 0 ∧ mM (fun _ => (⟨1, x⟩ : Pt)) 1 = gapM x := by
  have hr : rightB x.n x.d = true := hx
  have hp : (⟨1, x⟩ : Pt).ok = true := by simp [Pt.ok, pfault, fault, hr]
  have hl : lC (fun _ => (⟨1, x⟩ : Pt)) 1 = 0 := by
    unfold lC
    rw [if_neg (by omega), if_pos (allP_yes fun _ _ => hp)]
  have hm : moS (fun _ => (⟨1, x⟩ : Pt)) 1 = (jC unitM (gapM x), joinM unitM (gapM x)) := rfl
  unfold mC mM
  rw [if_pos hl, if_pos hl, hm]
  exact gap_join hx
theorem rdp_blk {W : World} {b : Nat} {q : Q} (h : Blk W b #[.int .i64 1, .int .i64 q.n, .int .i64 q.d] 34) : RdP W b 0 1 (fun _ => ⟨1, q⟩) := fun i hi => by
  obtain rfl : i = 0 := by omega
  exact ⟨h.cell (j := 0) rfl, h.cell (j := 1) rfl, h.cell (j := 2) rfl⟩
theorem sgap {W : World} {b : Nat} {q : Q} (hq : q.ok = true) (h : Blk W b #[.int .i64 1, .int .i64 q.n, .int .i64 q.d] 34) : Calls Try.prog 8 #[.slice (some ⟨b, 0, none⟩) 1 1] W fun e w' => e = .returned (.agg #[.int .i64 0, .int .i64 1, .int .i64 1, .int .i64 q.n, .int .i64 q.d, .int .i64 0, .int .i64 1, .int .i64 1, .int .i64 1]) ∧ Below W.heap.size W w' := by
  have k := smatrix b 0 1 1 (fun _ => (⟨1, q⟩ : Pt)) W (by omega) (rdp_blk h)
  rw [(gap_one hq).1, (gap_one hq).2] at k
  exact k
theorem back_ok {m : Mx} {x : Q} (hi : imC m x = 0) : (nQ (bV m x)).ok = true := by
  obtain ⟨hm, hx, ht, hn, hb, hc⟩ := im_zero hi
  have hh : hK m x = true ∧ divK (hV m x) (tV m x) = true := by unfold bK dK at hb; simpa only [Bool.and_eq_true] using hb
  have hv : bV m x = divQ (hV m x) (tV m x) := by unfold bV dQ; rw [if_pos hh.1]
  rw [nQ_ok, hv]
  exact (div_parts hh.2).1
theorem below_new {B : Nat} {X W : World} (h : Below B X W) (o : Obj) (hB : B ≤ X.heap.size := by exact Nat.le_refl _) : Below B X (W.alloc o) := h.alloc (Nat.le_trans hB h.size) o
end Go.Proofs.Ytdmjfphmgpkfcaa
