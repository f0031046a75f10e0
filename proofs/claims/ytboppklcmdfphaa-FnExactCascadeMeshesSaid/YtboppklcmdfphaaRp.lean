/- slices.Repeat of one number 1; the mesh that lets all light pass: contracts. -/
import Derived.Test.YtboppklcmdfphaaMl
import Derived.Test.YtboppklcmdfphaaMh
import Derived.Test.YtboppklcmdfphaaRw
import Derived.Deep.RegionLaw
namespace Go.Proofs.Ytboppklcmdfphaa
open Go.RowKit
set_option linter.unusedVariables false
set_option linter.unusedSimpArgs false
/-- m numbers 1, then noughts. -/
def repl (m n : Nat) : List Value := List.replicate m (.int .i64 1) ++ List.replicate (n - m) (.int .i64 0)
theorem repl_len {m n : Nat} (h : m ≤ n) : (repl m n).length = n := by unfold repl; simp; omega
theorem made_rep (z : Value) (n : Nat) : madeCells #[z] n = (List.replicate n z).toArray := by
  apply Array.ext_getElem?
  intro i
  by_cases h : i < n
  · rw [made_cell h]
    simp [h, Nat.mod_one]
  · have h1 : (madeCells #[z] n).size = n := by unfold madeCells; simp
    rw [Array.getElem?_eq_none (by omega), Array.getElem?_eq_none (by simp; omega)]
theorem repl_zero (n : Nat) : repl 0 n = List.replicate n (.int .i64 0) := by simp [repl]
theorem repl_splice {m q n : Nat} (h : m + q ≤ n) : splice (repl m n) m (List.replicate q (.int .i64 1)) = repl (m + q) n := by
  unfold splice repl
  rw [List.take_append_of_le_length (by simp), List.take_of_length_le (by simp), List.length_replicate, List.drop_append, List.drop_of_length_le (by simp), List.nil_append, List.length_replicate, Nat.add_sub_cancel_left, List.drop_replicate, ← List.append_assoc, List.replicate_append_replicate]
  congr 2
  omega
theorem repl_cell {w : World} {g m n i : Nat} (h : w.heap[g]? = some (.cells (repl m n).toArray 2 (0, 0))) (hi : i < m) : w.cell? ⟨g, i, none⟩ = some (.int .i64 1) := by
  unfold World.cell?
  rw [h]
  show (repl m n).toArray[i]? = _
  unfold repl
  simp [List.getElem?_append_left, hi]
theorem size2 : (Try.prog.info? 2).map (·.size) = some 1 := by kernel_rfl
set_option maxRecDepth 20000 in
set_option maxHeartbeats 1600000 in
theorem repeat_any (bx n : Nat) (w : World) (hx : w.cell? ⟨bx, 0, none⟩ = some (.int .i64 1)) (hn0 : 0 < n) (hn : n ≤ 24) :
    Calls Try.prog 113 #[.slice (some ⟨bx, 0, none⟩) 1 1, .int .i64 n] w fun e w' => e = .returned (.slice (some ⟨w.heap.size, 0, none⟩) n n) ∧ Seg w' w.heap.size 2 0 n (fun _ => .int .i64 1) ∧ Below w.heap.size w w' := by
  have hmk := run_make_row' (P := Try.prog) 32 2 (.int .i64 0) 8 Try.underlying32 info2 rfl .i64 .i64 n (by omega) (by omega)
  obtain ⟨X, hX⟩ : ∃ X, X = w.alloc (.cells (madeCells #[.int .i64 0] n) 2) := ⟨_, rfl⟩
  have HX : Hid (X.heap[w.heap.size]? = some (.cells (repl 0 n).toArray 2 (0, 0)) ∧ Below w.heap.size w X ∧ X.cell? ⟨bx, 0, none⟩ = some (.int .i64 1)) := by
    rw [hX, repl_zero, made_rep]
    have hb : Below w.heap.size w (w.alloc (.cells (List.replicate n (.int .i64 0)).toArray 2)) := (Below.refl _ _).alloc (Nat.le_refl _) _
    exact ⟨heap_alloc_new _ _, hb, (hb.cell (World.block_lt_of_cell? _ _ hx)).trans hx⟩
  clear hx
  go_enter Try.func113, Try.ntmps113
  go_wp2_with fail
  refine (mulU_any n hn _).mono ?_
  rintro e w1 ⟨rfl, rfl⟩
  go_upto_region 7 with fail
  rw [← hX]
  clear hX hmk
  have hsrc : ∀ (j : Nat) (v : Value), [Value.int .i64 1][j]? = some v → X.cell? ((⟨bx, 0, none⟩ : Addr).add j) = some v := by
    intro j v hj
    have hl := (List.getElem?_eq_some_iff.1 hj).1
    obtain rfl : j = 0 := by simpa using hl
    simp at hj
    subst hj
    exact HX.out.2.2
  have hmin : Hid (([Value.int .i64 1] : List Value).length = Nat.min 1 n) := by show 1 = Nat.min 1 n; exact (Nat.min_eq_left (by omega)).symm
  have hfit : 0 + ([Value.int .i64 1] : List Value).length ≤ (repl 0 n).length := by rw [repl_len (by omega)]; simp; omega
  have hone : ∀ v ∈ ([Value.int .i64 1] : List Value), v.oneCell' = true := fun v hv => by simp at hv; subst hv; rfl
  go_wp2_with (first | (refine wpList_copy_splice rfl (.tmp 31) (.tmp 32) 32 32 rfl 2 Try.underlying32 size2 (some ⟨w.heap.size, 0, none⟩) (some ⟨bx, 0, none⟩) n n 1 1 rfl rfl w.heap.size 0 (repl 0 n) 2 HX.out.1 [.int .i64 1] hmin.out (fun _ => ⟨rfl, _, rfl, hsrc⟩) hfit hone w.heap.size w HX.out.2.1 (Nat.le_refl _) ?_; intro w4 hg4 hb4))
  clear hsrc hmin hfit hone
  have H4 : Hid (w4.heap[w.heap.size]? = some (.cells (repl 1 n).toArray 2 (0, 0)) ∧ Below w.heap.size w w4) := ⟨by
    have h := hg4.out
    rw [show [Value.int .i64 1] = List.replicate 1 (.int .i64 1) from rfl, repl_splice (m := 0) (q := 1) (by omega)] at h
    exact h, hb4⟩
  clear hg4 hb4 HX
  go_loopw [8] (fun s wr => ∃ m : Nat, 0 < m ∧ m ≤ n ∧ s = .int .i64 m ∧ Hid (wr.heap[w.heap.size]? = some (.cells (repl m n).toArray 2 (0, 0)) ∧ Below w.heap.size w wr)) (fun s _ => n - (intOf s).toNat)
  case atStart => exact ⟨1, by omega, by omega, rfl, H4.out⟩
  case round =>
    obtain ⟨m, hm0, hmn, rfl, HS⟩ := hrel
    by_cases hlt : m < n
    · obtain ⟨q, hq⟩ : ∃ q, q = Nat.min m (n - m) := ⟨_, rfl⟩
      have HQ : Hid (q = Nat.min m (n - m)) := hq
      have hnm : Hid (¬ n = m) := show ¬ n = m by omega
      have hq1 : q ≤ n - m := by rw [hq]; exact Nat.min_le_right _ _
      have hq2 : q ≤ m := by rw [hq]; exact Nat.min_le_left _ _
      have hq0 : 0 < q := by rw [hq]; exact Nat.lt_min.2 ⟨hm0, by omega⟩
      clear hq
      have hsub : (n : Int) - (m : Int) = ((n - m : Nat) : Int) := by omega
      have HD : Hid (wr.drew.heap[w.heap.size]? = some (.cells (repl m n).toArray 2 (0, 0)) ∧ Below w.heap.size w wr.drew) := ⟨HS.out.1, HS.out.2.drew⟩
      have hb0 : Below w.heap.size w wr := HS.out.2
      clear HS H4
      have hmin : Hid ((List.replicate q (Value.int .i64 1)).length = Nat.min m (n - m)) := by show (List.replicate q (Value.int .i64 1)).length = Nat.min m (n - m); rw [List.length_replicate]; exact HQ.out
      have hfit : m + (List.replicate q (Value.int .i64 1)).length ≤ (repl m n).length := by rw [repl_len hmn]; simp; omega
      have hone : ∀ v ∈ List.replicate q (Value.int .i64 1), v.oneCell' = true := fun v hv => by rw [List.mem_replicate] at hv; rw [hv.2]; rfl
      have hsrc : ∀ (j : Nat) (v : Value), (List.replicate q (Value.int .i64 1))[j]? = some v → wr.drew.cell? ((⟨w.heap.size, 0, none⟩ : Addr).add j) = some v := by
        intro j v hj
        have hl := (List.getElem?_eq_some_iff.1 hj).1
        simp at hl
        rw [List.getElem?_replicate] at hj
        simp [hl] at hj
        subst hj
        have e0 : (⟨w.heap.size, 0, none⟩ : Addr).add j = ⟨w.heap.size, j, none⟩ := by
          unfold Addr.add
          split
          · rename_i h; subst h; rfl
          · simp
        rw [e0]
        exact repl_cell HD.out.1 (by omega)
      go_wp2_with fail
      go_region_held3 (fun W => Below w.heap.size w W) (go_grown) (first | (refine step_copy_splice (by rfl) (.tmp 41) (.tmp 44) 32 32 (by rfl) 2 Try.underlying32 size2 _ _ _ _ _ _ (by rfl) (by rfl) w.heap.size m (repl m n) 2 HD.out.1 (List.replicate q (.int .i64 1)) hmin.out (fun _ => ⟨if_neg hnm.out, _, rfl, hsrc⟩) hfit hone w.heap.size w HD.out.2 (Nat.le_refl _) ?_; intro w5 hg5 hb5))
      clear hsrc hmin hfit hone
      have HN : Hid (w5.heap[w.heap.size]? = some (.cells (repl (m + q) n).toArray 2 (0, 0)) ∧ Below w.heap.size w w5) := ⟨by have h := hg5.out; rw [repl_splice (by omega)] at h; exact h, hb5⟩
      clear hg5 hb5 HD
      go_wp2
      have hwr : IntKind.i64.wrap ((m : Int) + (q : Int)) = (m : Int) + (q : Int) := by rw [IntKind.wrap_i64]; omega
      exact ⟨⟨m + q, by omega, by omega, by simp [hwr], HN⟩, by simp [intOf, hwr]; omega⟩
    · obtain rfl : m = n := by omega
      go_wp2
      go_ret
      refine ⟨rfl, ⟨_, HS.out.1, fun i hi => ?_⟩, HS.out.2⟩
      rw [Nat.zero_add]
      unfold repl
      simp [hi]
set_option maxRecDepth 20000 in
set_option maxHeartbeats 1600000 in
theorem clearM_any (n : Nat) (w : World) (hn0 : 0 < n) (hn : n ≤ 24) : Calls Try.prog 86 #[.int .i64 n] w fun e w' => ∃ g, e = .returned (.agg #[.int .i64 n, .slice (some ⟨g, 0, none⟩) n n, .slice none 0 0]) ∧ w.heap.size ≤ g ∧ Seg w' g 2 0 n (fun _ => .int .i64 1) ∧ Below w.heap.size w w' := by
  obtain ⟨X, hX⟩ : ∃ X, X = (w.alloc (.cells #[.int .i64 0, .slice none 0 0, .slice none 0 0] 49)).alloc (.cells #[.int .i64 1] 2) := ⟨_, rfl⟩
  have HX : Hid (Blk X w.heap.size #[.int .i64 0, .slice none 0 0, .slice none 0 0] 49 ∧ X.cell? ⟨w.heap.size + 1, 0, none⟩ = some (.int .i64 1) ∧ Below w.heap.size w X) := by
    rw [hX]
    have hb : Blk ((w.alloc (.cells #[.int .i64 0, .slice none 0 0, .slice none 0 0] 49)).alloc (.cells #[.int .i64 1] 2)) (w.heap.size + 1) #[.int .i64 1] 2 := Blk.new (by simp)
    exact ⟨(Blk.new rfl).alloc _, hb.cell (j := 0) rfl, ((Below.refl _ _).alloc (Nat.le_refl _) _).alloc (by simp) _⟩
  go_enter Try.func86, Try.ntmps86
  go_wp2_with fail
  rw [← hX]
  clear hX
  refine (repeat_any _ n X HX.out.2.1 hn0 hn).mono ?_
  rintro e w1 ⟨rfl, hs, hb⟩
  have zX := HX.out.2.2.size
  have HR : Hid (Blk w1 w.heap.size #[.int .i64 0, .slice none 0 0, .slice none 0 0] 49) := HX.out.1.old hb
  have hXl : w.heap.size < X.heap.size := HX.out.1.lt
  have HS : Hid (Seg w1 X.heap.size 2 0 n (fun _ => .int .i64 1) ∧ Below w.heap.size w w1) := ⟨hs, HX.out.2.2.trans (hb.mono zX)⟩
  have r0 := HR.out.cell (j := 0) rfl
  have r1 := HR.out.cell (j := 1) rfl
  have r2 := HR.out.cell (j := 2) rfl
  have rf := HR.out.frozen
  clear hs hb
  go_wp2
  refine bodyPost_ret (res_of (cs := #[.int .i64 n, .slice (some ⟨X.heap.size, 0, none⟩) n n, .slice none 0 0]) Try.results86 rfl (((HR.out.set 0 _ rfl).set 1 _ rfl).set 2 _ rfl) Try.underlying49 (by kernel_rfl)) rfl ⟨X.heap.size, rfl, by omega, ?_, ?_⟩
  · exact ((HS.out.1.setOther (by simp; omega) _).setOther (by simp; omega) _).setOther (by simp; omega) _
  · exact ((HS.out.2.setCell (by simp) _).setCell (by simp) _).setCell (by simp) _
end Go.Proofs.Ytboppklcmdfphaa
