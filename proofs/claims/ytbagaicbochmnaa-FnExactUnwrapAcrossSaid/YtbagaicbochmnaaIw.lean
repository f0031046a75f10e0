/- impl.UnwrapMap and impl.UnwrapAcross. -/
import Derived.Test.YtbagaicbochmnaaUw
import Derived.Test.YtbagaicbochmnaaCo
import Derived.Test.YtbagaicbochmnaaRz
import Derived.Test.YtbagaicbochmnaaMp
namespace Go.Proofs.Ytbagaicbochmnaa
open Go.RowKit
set_option linter.unusedVariables false
theorem Mat.even {lo hi : Nat} {w : World} {l : Lie} {n k : Nat} {L : Nat → Nat} {F : Rm.Mx} (h : Mat lo hi w l n L F) (e : ∀ i, i < n → L i = k) : Mat lo hi w l n (fun _ => k) F :=
  ⟨h.top.congr fun i hi => by simp [Lie.row, e i hi], fun i hi => by have := h.row i hi; rwa [e i hi] at this, h.blo, h.bhi, h.rlo, h.rhi, h.apart⟩
/-- Across: the columns of the unwrapped map of the columns. -/
def uwa (F : Rm.Mx) (i j : Nat) : Int := uwm (fun r c => F c r) j i
set_option maxHeartbeats 1600000 in
theorem iUwm_any {lo hi : Nat} {w : World} {l : Lie} {n : Nat} {L : Nat → Nat} {F : Rm.Mx} (h : Mat lo hi w l n L F) (hn : n ≤ 1000000000000) (hL : ∀ i, i < n → L i ≤ 1000000000000) (hhi : hi ≤ w.heap.size) :
    Calls Try.prog 45 #[.slice (some ⟨l.b, 0, none⟩) n l.cap] w fun e w' => ∃ v, e = .returned (.agg #[.int .i64 (mapc n L), v]) ∧ OwnM w.heap.size w'.heap.size w' (mapc n L) v n (L 0) (uwm F) ∧ Below w.heap.size w w' := by
  obtain ⟨X, hX⟩ : ∃ X, X = w.alloc (.cells #[.int .i64 0, .slice none 0 0] 47) := ⟨_, rfl⟩
  have HM : Hid (Mat lo hi X l n L F) := by show Mat lo hi X _ _ _ _; rw [hX]; exact h.alloc _ hhi
  have HB : Hid (Below w.heap.size w X) := by show Below _ _ X; rw [hX]; exact (Below.refl _ _).alloc (Nat.le_refl _) _
  have BX : Hid (Blk X w.heap.size #[.int .i64 0, .slice none 0 0] 47) := by show Blk X _ _ _; rw [hX]; exact Blk.new rfl
  have HL : Hid (∀ i, i < n → L i ≤ 9223372036854775807) := fun i hi => by have := hL i hi; omega
  clear h hL
  go_enter Try.func45, Try.ntmps45
  go_wp2_with fail
  rw [← hX]
  clear hX
  refine (iMap_any _ _ _ _ L _ (by omega) HL.out HM.out.tops).mono ?_
  rintro e w1 ⟨rfl, rfl⟩
  by_cases hc : mapc n L = 0
  · obtain ⟨hn0, hn32, hl0, hl32, hE⟩ := mapc_right hc
    have M0 : Hid (Mat lo hi X l n (fun _ => L 0) F) := HM.out.even hE
    have HCC : Hid (mapc n L = 0) := hc
    rw [hc]
    clear hc hE
    obtain ⟨m, hm⟩ : ∃ m, m = L 0 := ⟨_, rfl⟩
    rw [← hm] at hl0 hl32 M0
    have HMM : Hid (m = L 0) := hm
    clear HM HL hm
    go_wp2_with fail
    refine (unwR_any l.b 0 n m l.cap _ F X M0.out.shp hn0 (by omega) hl0 (by omega)).mono ?_
    rintro e w2 ⟨l2, rfl, MM, X2⟩
    have B2 : Blk w2 w.heap.size #[.int .i64 0, .slice none 0 0] 47 := (BX.out.old X2)
    have c0 := B2.cell (j := 0) rfl
    have c1 := B2.cell (j := 1) rfl
    have f0 := B2.frozen 0
    have f1 := B2.frozen 1
    have HH : Hid (Mat X.heap.size w2.heap.size w2 l2 n (fun _ => m) (uwm F) ∧ Below w.heap.size w w2 ∧ w.heap.size < X.heap.size) := ⟨MM, HB.out.trans (X2.mono HB.out.size), BX.out.lt⟩
    clear B2 MM X2
    go_wp2
    refine bodyPost_ret (v := .agg #[.int .i64 0, .slice (some ⟨l2.b, 0, none⟩) n l2.cap]) (by simp [results, Try.results45, go_sem, c0, c1]) rfl ⟨_, by rw [HCC.out], Or.inr ⟨⟨HCC.out, hn0⟩, l2, rfl, ?_⟩, ?_⟩
    · rw [← HMM.out]
      refine Mat.wide (lo := X.heap.size) (hi := w2.heap.size) (Mat.keep HH.out.1 fun k h1 _ => ?_) (Nat.le_of_lt HH.out.2.2) (by simp)
      first | exact (Below.heap_setCell _ _ _ _ (by show k ≠ w.heap.size; have := HH.out.2.2; omega)).trans (Below.heap_setCell _ _ _ _ (by show k ≠ w.heap.size; have := HH.out.2.2; omega)) | exact Below.heap_setCell _ _ _ _ (by show k ≠ w.heap.size; have := HH.out.2.2; omega)
    · first | exact (HH.out.2.1.setCell (p := ⟨w.heap.size, 0, none⟩) (Nat.le_refl _) _).setCell (p := ⟨w.heap.size, 1, none⟩) (Nat.le_refl _) _ | exact HH.out.2.1.setCell (p := ⟨w.heap.size, 1, none⟩) (Nat.le_refl _) _
  · have hc0 : (mapc n L != 0) = true := by rw [bne_iff_ne]; exact hc
    have H0 : Hid (mapc n L ≠ 0) := hc
    obtain ⟨code, hcode⟩ : ∃ c, c = mapc n L := ⟨_, rfl⟩
    have HCO : Hid (code = mapc n L) := hcode
    rw [← hcode] at hc0 ⊢
    clear hc HM HL hcode
    have c0 := BX.out.cell (j := 0) rfl
    have c1 := BX.out.cell (j := 1) rfl
    have f0 := BX.out.frozen 0
    have f1 := BX.out.frozen 1
    go_wp2
    refine bodyPost_ret (v := .agg #[.int .i64 code, .slice none 0 0]) (by simp [results, Try.results45, go_sem, c0, c1]) rfl ⟨_, by rw [HCO.out], Or.inl ⟨Or.inl H0.out, none, 0, rfl⟩, ?_⟩
    first | exact (HB.out.setCell (p := ⟨w.heap.size, 0, none⟩) (Nat.le_refl _) _).setCell (p := ⟨w.heap.size, 1, none⟩) (Nat.le_refl _) _ | exact HB.out.setCell (p := ⟨w.heap.size, 0, none⟩) (Nat.le_refl _) _
set_option maxHeartbeats 1600000 in
theorem iUwa_any {lo hi : Nat} {w : World} {l : Lie} {n : Nat} {L : Nat → Nat} {F : Rm.Mx} (h : Mat lo hi w l n L F) (hn : n ≤ 1000000000000) (hL : ∀ i, i < n → L i ≤ 1000000000000) (hhi : hi ≤ w.heap.size) :
    Calls Try.prog 52 #[.slice (some ⟨l.b, 0, none⟩) n l.cap] w fun e w' => ∃ v, e = .returned (.agg #[.int .i64 (mapc n L), v]) ∧ OwnM w.heap.size w'.heap.size w' (mapc n L) v n (L 0) (uwa F) ∧ Below w.heap.size w w' := by
  obtain ⟨X, hX⟩ : ∃ X, X = w.alloc (.cells #[.int .i64 0, .slice none 0 0] 47) := ⟨_, rfl⟩
  have HM : Hid (Mat lo hi X l n L F) := by show Mat lo hi X _ _ _ _; rw [hX]; exact h.alloc _ hhi
  have HB : Hid (Below w.heap.size w X) := by show Below _ _ X; rw [hX]; exact (Below.refl _ _).alloc (Nat.le_refl _) _
  have BX : Hid (Blk X w.heap.size #[.int .i64 0, .slice none 0 0] 47) := by show Blk X _ _ _; rw [hX]; exact Blk.new rfl
  have HL : Hid (∀ i, i < n → L i ≤ 9223372036854775807) := fun i hi => by have := hL i hi; omega
  clear h hL
  go_enter Try.func52, Try.ntmps52
  go_wp2_with fail
  rw [← hX]
  clear hX
  refine (iMap_any _ _ _ _ L _ (by omega) HL.out HM.out.tops).mono ?_
  rintro e w1 ⟨rfl, rfl⟩
  by_cases hc : mapc n L = 0
  · obtain ⟨hn0, hn32, hl0, hl32, hE⟩ := mapc_right hc
    have M0 : Hid (Mat lo hi X l n (fun _ => L 0) F) := HM.out.even hE
    have HCC : Hid (mapc n L = 0) := hc
    rw [hc]
    clear hc hE
    obtain ⟨m, hm⟩ : ∃ m, m = L 0 := ⟨_, rfl⟩
    rw [← hm] at hl0 hl32 M0
    have HMM : Hid (m = L 0) := hm
    clear HM HL hm
    go_wp2_with fail
    refine (cols_any l.b 0 n m l.cap _ F X M0.out.shp hn0 (by omega) hl0 (by omega)).mono ?_
    rintro e w2 ⟨l2, rfl, M2, X2⟩
    have HH2 : Hid (Mat X.heap.size w2.heap.size w2 l2 m (fun _ => n) (fun i j => F j i) ∧ Below X.heap.size X w2) := ⟨M2, X2⟩
    clear M2 X2
    go_wp2_with fail
    refine (unwR_any l2.b 0 m n l2.cap _ (fun i j => F j i) w2 HH2.out.1.shp hl0 (by omega) hn0 (by omega)).mono ?_
    rintro e w3 ⟨l3, rfl, M3, X3⟩
    have HH3 : Hid (Mat w2.heap.size w3.heap.size w3 l3 m (fun _ => n) (uwm (fun i j => F j i)) ∧ Below X.heap.size X w3) := ⟨M3, HH2.out.2.trans (X3.mono HH2.out.2.size)⟩
    clear M3 X3 HH2
    go_wp2_with fail
    refine (cols_any l3.b 0 m n l3.cap _ (uwm (fun i j => F j i)) w3 HH3.out.1.shp hl0 (by omega) hn0 (by omega)).mono ?_
    rintro e w4 ⟨l4, rfl, M4, X4'⟩
    have MM : Mat X.heap.size w4.heap.size w4 l4 n (fun _ => m) (uwa F) := M4.wide HH3.out.2.size (Nat.le_refl _)
    have X4 : Below X.heap.size X w4 := HH3.out.2.trans (X4'.mono HH3.out.2.size)
    clear M4 X4' HH3
    have B2 : Blk w4 w.heap.size #[.int .i64 0, .slice none 0 0] 47 := (BX.out.old X4)
    have c0 := B2.cell (j := 0) rfl
    have c1 := B2.cell (j := 1) rfl
    have f0 := B2.frozen 0
    have f1 := B2.frozen 1
    have HH : Hid (Mat X.heap.size w4.heap.size w4 l4 n (fun _ => m) (uwa F) ∧ Below w.heap.size w w4 ∧ w.heap.size < X.heap.size) := ⟨MM, HB.out.trans (X4.mono HB.out.size), BX.out.lt⟩
    clear B2 MM X4
    go_wp2
    refine bodyPost_ret (v := .agg #[.int .i64 0, .slice (some ⟨l4.b, 0, none⟩) n l4.cap]) (by simp [results, Try.results52, go_sem, c0, c1]) rfl ⟨_, by rw [HCC.out], Or.inr ⟨⟨HCC.out, hn0⟩, l4, rfl, ?_⟩, ?_⟩
    · rw [← HMM.out]
      refine Mat.wide (lo := X.heap.size) (hi := w4.heap.size) (Mat.keep HH.out.1 fun k h1 _ => ?_) (Nat.le_of_lt HH.out.2.2) (by simp)
      first | exact (Below.heap_setCell _ _ _ _ (by show k ≠ w.heap.size; have := HH.out.2.2; omega)).trans (Below.heap_setCell _ _ _ _ (by show k ≠ w.heap.size; have := HH.out.2.2; omega)) | exact Below.heap_setCell _ _ _ _ (by show k ≠ w.heap.size; have := HH.out.2.2; omega)
    · first | exact (HH.out.2.1.setCell (p := ⟨w.heap.size, 0, none⟩) (Nat.le_refl _) _).setCell (p := ⟨w.heap.size, 1, none⟩) (Nat.le_refl _) _ | exact HH.out.2.1.setCell (p := ⟨w.heap.size, 1, none⟩) (Nat.le_refl _) _
  · have hc0 : (mapc n L != 0) = true := by rw [bne_iff_ne]; exact hc
    have H0 : Hid (mapc n L ≠ 0) := hc
    obtain ⟨code, hcode⟩ : ∃ c, c = mapc n L := ⟨_, rfl⟩
    have HCO : Hid (code = mapc n L) := hcode
    rw [← hcode] at hc0 ⊢
    clear hc HM HL hcode
    have c0 := BX.out.cell (j := 0) rfl
    have c1 := BX.out.cell (j := 1) rfl
    have f0 := BX.out.frozen 0
    have f1 := BX.out.frozen 1
    go_wp2
    refine bodyPost_ret (v := .agg #[.int .i64 code, .slice none 0 0]) (by simp [results, Try.results52, go_sem, c0, c1]) rfl ⟨_, by rw [HCO.out], Or.inl ⟨Or.inl H0.out, none, 0, rfl⟩, ?_⟩
    first | exact (HB.out.setCell (p := ⟨w.heap.size, 0, none⟩) (Nat.le_refl _) _).setCell (p := ⟨w.heap.size, 1, none⟩) (Nat.le_refl _) _ | exact HB.out.setCell (p := ⟨w.heap.size, 0, none⟩) (Nat.le_refl _) _
end Go.Proofs.Ytbagaicbochmnaa
