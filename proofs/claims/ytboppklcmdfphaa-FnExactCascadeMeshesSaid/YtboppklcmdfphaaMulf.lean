/- The products' faults, of both packages: contracts. -/
import Derived.Test.YtboppklcmdfphaaImul
namespace Go.Proofs.Ytboppklcmdfphaa
open Go.RowKit
theorem Tops.alloc {w : World} {b off n : Nat} {L : Nat → Nat} (h : Tops w b off n L) (o : Obj) : Tops (w.alloc o) b off n L := fun i hi => by
  obtain ⟨ao, c, e⟩ := h i hi
  refine ⟨ao, c, ?_⟩
  rw [World.cell?_of_block (w := w) (Below.heap_alloc _ _ _ (World.block_lt_of_cell? _ _ e))]
  exact e
set_option maxHeartbeats 800000 in
theorem sMul_e1 {lo hi lo' hi' : Nat} {ma mb : Lie} {na nb : Nat} {La Lb : Nat → Nat} {A B : Rm.Mx} {w : World} (hA : Mat lo hi w ma na La A) (hB : Mat lo' hi' w mb nb Lb B) (hna : na ≤ 1000000000000) (_hnb : nb ≤ 1000000000000)
    (hLa : ∀ k, k < na → La k ≤ 1000000000000) (hLb : ∀ k, k < nb → Lb k ≤ 1000000000000) (hc : faultOf na La ≠ 0) :
    Calls Try.prog 90 #[.slice (some ⟨ma.b, 0, none⟩) na ma.cap, .slice (some ⟨mb.b, 0, none⟩) nb mb.cap] w fun e w' => e = .returned (.agg #[.int .i64 (faultOf na La), .slice none 0 0]) ∧ Below w.heap.size w w' := by
  have TA : ∀ o, Hid (Tops (w.alloc o) ma.b 0 na La) := fun o => hA.tops.alloc o
  have TB : ∀ o, Hid (Tops (w.alloc o) mb.b 0 nb Lb) := fun o => hB.tops.alloc o
  have LA : Hid (∀ k, k < na → La k ≤ 9223372036854775807) := fun k hk => Nat.le_trans (hLa k hk) (by omega)
  have LB : Hid (∀ k, k < nb → Lb k ≤ 9223372036854775807) := fun k hk => Nat.le_trans (hLb k hk) (by omega)
  clear hA hB hLa hLb
  have hc1 : (faultOf na La != 0) = true := by rw [bne_iff_ne]; exact hc
  clear hc
  go_enter Try.func90, Try.ntmps90
  go_wp2_with fail
  refine (sFault_any _ _ _ _ La _ (by omega) LA.out (TA _).out).mono ?_
  rintro e w1 ⟨rfl, rfl⟩
  go_wp2
  refine bodyPost_ret (v := .agg #[.int .i64 (faultOf na La), .slice none 0 0]) (by simp [results, Try.results90, go_sem]) rfl ⟨rfl, ?_⟩
  repeat (first | exact Below.refl _ _ | (refine Below.setCell ?_ (by simp) _) | (refine Below.alloc ?_ (by simp <;> omega) _))
set_option maxHeartbeats 800000 in
theorem sMul_e2 {lo hi lo' hi' : Nat} {ma mb : Lie} {na nb : Nat} {La Lb : Nat → Nat} {A B : Rm.Mx} {w : World} (hA : Mat lo hi w ma na La A) (hB : Mat lo' hi' w mb nb Lb B) (hna : na ≤ 1000000000000) (_hnb : nb ≤ 1000000000000)
    (hLa : ∀ k, k < na → La k ≤ 1000000000000) (hLb : ∀ k, k < nb → Lb k ≤ 1000000000000) (hc : faultOf na La = 0) (hd : faultOf nb Lb ≠ 0) :
    Calls Try.prog 90 #[.slice (some ⟨ma.b, 0, none⟩) na ma.cap, .slice (some ⟨mb.b, 0, none⟩) nb mb.cap] w fun e w' => e = .returned (.agg #[.int .i64 (faultOf nb Lb), .slice none 0 0]) ∧ Below w.heap.size w w' := by
  have TA : ∀ o, Hid (Tops (w.alloc o) ma.b 0 na La) := fun o => hA.tops.alloc o
  have TB : ∀ o, Hid (Tops (w.alloc o) mb.b 0 nb Lb) := fun o => hB.tops.alloc o
  have LA : Hid (∀ k, k < na → La k ≤ 9223372036854775807) := fun k hk => Nat.le_trans (hLa k hk) (by omega)
  have LB : Hid (∀ k, k < nb → Lb k ≤ 9223372036854775807) := fun k hk => Nat.le_trans (hLb k hk) (by omega)
  clear hA hB hLa hLb
  have hc1 : (faultOf nb Lb != 0) = true := by rw [bne_iff_ne]; exact hd
  have HC : Hid (faultOf na La = 0) := hc
  clear hc hd
  go_enter Try.func90, Try.ntmps90
  go_wp2_with fail
  refine (sFault_any _ _ _ _ La _ (by omega) LA.out (TA _).out).mono ?_
  rintro e w1 ⟨rfl, rfl⟩
  rw [HC.out]
  go_wp2_with fail
  refine (sFault_any _ _ _ _ Lb _ (by omega) LB.out (TB _).out).mono ?_
  rintro e w1 ⟨rfl, rfl⟩
  go_wp2
  refine bodyPost_ret (v := .agg #[.int .i64 (faultOf nb Lb), .slice none 0 0]) (by simp [results, Try.results90, go_sem]) rfl ⟨rfl, ?_⟩
  repeat (first | exact Below.refl _ _ | (refine Below.setCell ?_ (by simp) _) | (refine Below.alloc ?_ (by simp <;> omega) _))
set_option maxHeartbeats 800000 in
theorem sMul_e3 {lo hi lo' hi' : Nat} {ma mb : Lie} {na nb : Nat} {La Lb : Nat → Nat} {A B : Rm.Mx} {w : World} (hA : Mat lo hi w ma na La A) (hB : Mat lo' hi' w mb nb Lb B) (hna : na ≤ 1000000000000) (_hnb : nb ≤ 1000000000000)
    (hLa : ∀ k, k < na → La k ≤ 1000000000000) (hLb : ∀ k, k < nb → Lb k ≤ 1000000000000) (hc : faultOf na La = 0) (hd : faultOf nb Lb = 0) (hne : na ≠ nb) :
    Calls Try.prog 90 #[.slice (some ⟨ma.b, 0, none⟩) na ma.cap, .slice (some ⟨mb.b, 0, none⟩) nb mb.cap] w fun e w' => e = .returned (.agg #[.int .i64 1, .slice none 0 0]) ∧ Below w.heap.size w w' := by
  have TA : ∀ o, Hid (Tops (w.alloc o) ma.b 0 na La) := fun o => hA.tops.alloc o
  have TB : ∀ o, Hid (Tops (w.alloc o) mb.b 0 nb Lb) := fun o => hB.tops.alloc o
  have LA : Hid (∀ k, k < na → La k ≤ 9223372036854775807) := fun k hk => Nat.le_trans (hLa k hk) (by omega)
  have LB : Hid (∀ k, k < nb → Lb k ≤ 9223372036854775807) := fun k hk => Nat.le_trans (hLb k hk) (by omega)
  clear hA hB hLa hLb
  have hc1 : (((na : Nat) : Int) != ((nb : Nat) : Int)) = true := ne_bool hne
  have hc2 : (((nb : Nat) : Int) != ((na : Nat) : Int)) = true := ne_bool hne.symm
  have HC : Hid (faultOf na La = 0 ∧ faultOf nb Lb = 0) := ⟨hc, hd⟩
  clear hc hd hne
  go_enter Try.func90, Try.ntmps90
  go_wp2_with fail
  refine (sFault_any _ _ _ _ La _ (by omega) LA.out (TA _).out).mono ?_
  rintro e w1 ⟨rfl, rfl⟩
  rw [HC.out.1]
  go_wp2_with fail
  refine (sFault_any _ _ _ _ Lb _ (by omega) LB.out (TB _).out).mono ?_
  rintro e w1 ⟨rfl, rfl⟩
  rw [HC.out.2]
  go_wp2
  refine bodyPost_ret (v := .agg #[.int .i64 1, .slice none 0 0]) (by simp [results, Try.results90, go_sem]) rfl ⟨rfl, ?_⟩
  repeat (first | exact Below.refl _ _ | (refine Below.setCell ?_ (by simp) _) | (refine Below.alloc ?_ (by simp <;> omega) _))
set_option maxHeartbeats 800000 in
theorem iMul_e1 {lo hi lo' hi' : Nat} {ma mb : Lie} {na nb : Nat} {La Lb : Nat → Nat} {A B : Rm.Mx} {w : World} (hA : Mat lo hi w ma na La A) (hB : Mat lo' hi' w mb nb Lb B) (hna : na ≤ 1000000000000) (_hnb : nb ≤ 1000000000000)
    (hLa : ∀ k, k < na → La k ≤ 1000000000000) (hLb : ∀ k, k < nb → Lb k ≤ 1000000000000) (hc : faultOf na La ≠ 0) :
    Calls Try.prog 91 #[.slice (some ⟨ma.b, 0, none⟩) na ma.cap, .slice (some ⟨mb.b, 0, none⟩) nb mb.cap] w fun e w' => e = .returned (.agg #[.int .i64 (faultOf na La), .slice none 0 0]) ∧ Below w.heap.size w w' := by
  have TA : ∀ o, Hid (Tops (w.alloc o) ma.b 0 na La) := fun o => hA.tops.alloc o
  have TB : ∀ o, Hid (Tops (w.alloc o) mb.b 0 nb Lb) := fun o => hB.tops.alloc o
  have LA : Hid (∀ k, k < na → La k ≤ 9223372036854775807) := fun k hk => Nat.le_trans (hLa k hk) (by omega)
  have LB : Hid (∀ k, k < nb → Lb k ≤ 9223372036854775807) := fun k hk => Nat.le_trans (hLb k hk) (by omega)
  clear hA hB hLa hLb
  have hc1 : (faultOf na La != 0) = true := by rw [bne_iff_ne]; exact hc
  clear hc
  go_enter Try.func91, Try.ntmps91
  go_wp2_with fail
  refine (iFault_any _ _ _ _ La _ (by omega) LA.out (TA _).out).mono ?_
  rintro e w1 ⟨rfl, rfl⟩
  go_wp2
  refine bodyPost_ret (v := .agg #[.int .i64 (faultOf na La), .slice none 0 0]) (by simp [results, Try.results91, go_sem]) rfl ⟨rfl, ?_⟩
  repeat (first | exact Below.refl _ _ | (refine Below.setCell ?_ (by simp) _) | (refine Below.alloc ?_ (by simp <;> omega) _))
set_option maxHeartbeats 800000 in
theorem iMul_e2 {lo hi lo' hi' : Nat} {ma mb : Lie} {na nb : Nat} {La Lb : Nat → Nat} {A B : Rm.Mx} {w : World} (hA : Mat lo hi w ma na La A) (hB : Mat lo' hi' w mb nb Lb B) (hna : na ≤ 1000000000000) (_hnb : nb ≤ 1000000000000)
    (hLa : ∀ k, k < na → La k ≤ 1000000000000) (hLb : ∀ k, k < nb → Lb k ≤ 1000000000000) (hc : faultOf na La = 0) (hd : faultOf nb Lb ≠ 0) :
    Calls Try.prog 91 #[.slice (some ⟨ma.b, 0, none⟩) na ma.cap, .slice (some ⟨mb.b, 0, none⟩) nb mb.cap] w fun e w' => e = .returned (.agg #[.int .i64 (faultOf nb Lb), .slice none 0 0]) ∧ Below w.heap.size w w' := by
  have TA : ∀ o, Hid (Tops (w.alloc o) ma.b 0 na La) := fun o => hA.tops.alloc o
  have TB : ∀ o, Hid (Tops (w.alloc o) mb.b 0 nb Lb) := fun o => hB.tops.alloc o
  have LA : Hid (∀ k, k < na → La k ≤ 9223372036854775807) := fun k hk => Nat.le_trans (hLa k hk) (by omega)
  have LB : Hid (∀ k, k < nb → Lb k ≤ 9223372036854775807) := fun k hk => Nat.le_trans (hLb k hk) (by omega)
  clear hA hB hLa hLb
  have hc1 : (faultOf nb Lb != 0) = true := by rw [bne_iff_ne]; exact hd
  have HC : Hid (faultOf na La = 0) := hc
  clear hc hd
  go_enter Try.func91, Try.ntmps91
  go_wp2_with fail
  refine (iFault_any _ _ _ _ La _ (by omega) LA.out (TA _).out).mono ?_
  rintro e w1 ⟨rfl, rfl⟩
  rw [HC.out]
  go_wp2_with fail
  refine (iFault_any _ _ _ _ Lb _ (by omega) LB.out (TB _).out).mono ?_
  rintro e w1 ⟨rfl, rfl⟩
  go_wp2
  refine bodyPost_ret (v := .agg #[.int .i64 (faultOf nb Lb), .slice none 0 0]) (by simp [results, Try.results91, go_sem]) rfl ⟨rfl, ?_⟩
  repeat (first | exact Below.refl _ _ | (refine Below.setCell ?_ (by simp) _) | (refine Below.alloc ?_ (by simp <;> omega) _))
set_option maxHeartbeats 800000 in
theorem iMul_e3 {lo hi lo' hi' : Nat} {ma mb : Lie} {na nb : Nat} {La Lb : Nat → Nat} {A B : Rm.Mx} {w : World} (hA : Mat lo hi w ma na La A) (hB : Mat lo' hi' w mb nb Lb B) (hna : na ≤ 1000000000000) (_hnb : nb ≤ 1000000000000)
    (hLa : ∀ k, k < na → La k ≤ 1000000000000) (hLb : ∀ k, k < nb → Lb k ≤ 1000000000000) (hc : faultOf na La = 0) (hd : faultOf nb Lb = 0) (hne : na ≠ nb) :
    Calls Try.prog 91 #[.slice (some ⟨ma.b, 0, none⟩) na ma.cap, .slice (some ⟨mb.b, 0, none⟩) nb mb.cap] w fun e w' => e = .returned (.agg #[.int .i64 1, .slice none 0 0]) ∧ Below w.heap.size w w' := by
  have TA : ∀ o, Hid (Tops (w.alloc o) ma.b 0 na La) := fun o => hA.tops.alloc o
  have TB : ∀ o, Hid (Tops (w.alloc o) mb.b 0 nb Lb) := fun o => hB.tops.alloc o
  have LA : Hid (∀ k, k < na → La k ≤ 9223372036854775807) := fun k hk => Nat.le_trans (hLa k hk) (by omega)
  have LB : Hid (∀ k, k < nb → Lb k ≤ 9223372036854775807) := fun k hk => Nat.le_trans (hLb k hk) (by omega)
  clear hA hB hLa hLb
  have hc1 : (((na : Nat) : Int) != ((nb : Nat) : Int)) = true := ne_bool hne
  have hc2 : (((nb : Nat) : Int) != ((na : Nat) : Int)) = true := ne_bool hne.symm
  have HC : Hid (faultOf na La = 0 ∧ faultOf nb Lb = 0) := ⟨hc, hd⟩
  clear hc hd hne
  go_enter Try.func91, Try.ntmps91
  go_wp2_with fail
  refine (iFault_any _ _ _ _ La _ (by omega) LA.out (TA _).out).mono ?_
  rintro e w1 ⟨rfl, rfl⟩
  rw [HC.out.1]
  go_wp2_with fail
  refine (iFault_any _ _ _ _ Lb _ (by omega) LB.out (TB _).out).mono ?_
  rintro e w1 ⟨rfl, rfl⟩
  rw [HC.out.2]
  go_wp2
  refine bodyPost_ret (v := .agg #[.int .i64 1, .slice none 0 0]) (by simp [results, Try.results91, go_sem]) rfl ⟨rfl, ?_⟩
  repeat (first | exact Below.refl _ _ | (refine Below.setCell ?_ (by simp) _) | (refine Below.alloc ?_ (by simp <;> omega) _))
end Go.Proofs.Ytboppklcmdfphaa
