/- Names of lenses: the contracts of both packages. -/
import Derived.Test.YtfdgnafakjlhaaaBase
import Derived.Test.YtfdgnafakjlhaaaNm
import Derived.Lib.OthersKept
namespace Go.Proofs.Ytfdgnafakjlhaaa
open Go.RowKit
set_option linter.unusedVariables false
set_option linter.unusedSimpArgs false
set_option maxHeartbeats 1600000 in
theorem ilet (r : Nat) (w : World) : Calls Try.prog 56 #[.int .i32 (r : Int)] w fun e w' => e = .returned (.bool (Nm.isLet r)) ∧ w' = w := by
  rcases (by omega : (r < 65) ∨ (65 ≤ r ∧ r ≤ 90) ∨ (90 < r ∧ r < 97) ∨ (97 ≤ r ∧ r ≤ 122) ∨ (122 < r ∧ r < 880) ∨ (880 ≤ r ∧ r ≤ 1023) ∨ (1023 < r)) with h | h | h | h | h | h | h
  · rw [show Nm.isLet r = false by simp [Nm.isLet] <;> omega]
    have l0 : decide ((r : Int) ≤ 90) = true := by simp <;> omega
    have l1 : decide ((r : Int) ≤ 122) = true := by simp <;> omega
    have l2 : decide ((r : Int) ≤ 1023) = true := by simp <;> omega
    have g0 : decide ((65 : Int) ≤ r) = false := by simp <;> omega
    have g1 : decide ((97 : Int) ≤ r) = false := by simp <;> omega
    have g2 : decide ((880 : Int) ≤ r) = false := by simp <;> omega
    go_enter Try.func56, Try.ntmps56
    go_wp2
    go_ret
    exact ⟨rfl, rfl⟩
  · rw [show Nm.isLet r = true by simp [Nm.isLet] <;> omega]
    have l0 : decide ((r : Int) ≤ 90) = true := by simp <;> omega
    have l1 : decide ((r : Int) ≤ 122) = true := by simp <;> omega
    have l2 : decide ((r : Int) ≤ 1023) = true := by simp <;> omega
    have g0 : decide ((65 : Int) ≤ r) = true := by simp <;> omega
    have g1 : decide ((97 : Int) ≤ r) = false := by simp <;> omega
    have g2 : decide ((880 : Int) ≤ r) = false := by simp <;> omega
    go_enter Try.func56, Try.ntmps56
    go_wp2
    go_ret
    exact ⟨rfl, rfl⟩
  · rw [show Nm.isLet r = false by simp [Nm.isLet] <;> omega]
    have l0 : decide ((r : Int) ≤ 90) = false := by simp <;> omega
    have l1 : decide ((r : Int) ≤ 122) = true := by simp <;> omega
    have l2 : decide ((r : Int) ≤ 1023) = true := by simp <;> omega
    have g0 : decide ((65 : Int) ≤ r) = true := by simp <;> omega
    have g1 : decide ((97 : Int) ≤ r) = false := by simp <;> omega
    have g2 : decide ((880 : Int) ≤ r) = false := by simp <;> omega
    go_enter Try.func56, Try.ntmps56
    go_wp2
    go_ret
    exact ⟨rfl, rfl⟩
  · rw [show Nm.isLet r = true by simp [Nm.isLet] <;> omega]
    have l0 : decide ((r : Int) ≤ 90) = false := by simp <;> omega
    have l1 : decide ((r : Int) ≤ 122) = true := by simp <;> omega
    have l2 : decide ((r : Int) ≤ 1023) = true := by simp <;> omega
    have g0 : decide ((65 : Int) ≤ r) = true := by simp <;> omega
    have g1 : decide ((97 : Int) ≤ r) = true := by simp <;> omega
    have g2 : decide ((880 : Int) ≤ r) = false := by simp <;> omega
    go_enter Try.func56, Try.ntmps56
    go_wp2
    go_ret
    exact ⟨rfl, rfl⟩
  · rw [show Nm.isLet r = false by simp [Nm.isLet] <;> omega]
    have l0 : decide ((r : Int) ≤ 90) = false := by simp <;> omega
    have l1 : decide ((r : Int) ≤ 122) = false := by simp <;> omega
    have l2 : decide ((r : Int) ≤ 1023) = true := by simp <;> omega
    have g0 : decide ((65 : Int) ≤ r) = true := by simp <;> omega
    have g1 : decide ((97 : Int) ≤ r) = true := by simp <;> omega
    have g2 : decide ((880 : Int) ≤ r) = false := by simp <;> omega
    go_enter Try.func56, Try.ntmps56
    go_wp2
    go_ret
    exact ⟨rfl, rfl⟩
  · rw [show Nm.isLet r = true by simp [Nm.isLet] <;> omega]
    have l0 : decide ((r : Int) ≤ 90) = false := by simp <;> omega
    have l1 : decide ((r : Int) ≤ 122) = false := by simp <;> omega
    have l2 : decide ((r : Int) ≤ 1023) = true := by simp <;> omega
    have g0 : decide ((65 : Int) ≤ r) = true := by simp <;> omega
    have g1 : decide ((97 : Int) ≤ r) = true := by simp <;> omega
    have g2 : decide ((880 : Int) ≤ r) = true := by simp <;> omega
    go_enter Try.func56, Try.ntmps56
    go_wp2
    go_ret
    exact ⟨rfl, rfl⟩
  · rw [show Nm.isLet r = false by simp [Nm.isLet] <;> omega]
    have l0 : decide ((r : Int) ≤ 90) = false := by simp <;> omega
    have l1 : decide ((r : Int) ≤ 122) = false := by simp <;> omega
    have l2 : decide ((r : Int) ≤ 1023) = false := by simp <;> omega
    have g0 : decide ((65 : Int) ≤ r) = true := by simp <;> omega
    have g1 : decide ((97 : Int) ≤ r) = true := by simp <;> omega
    have g2 : decide ((880 : Int) ≤ r) = true := by simp <;> omega
    go_enter Try.func56, Try.ntmps56
    go_wp2
    go_ret
    exact ⟨rfl, rfl⟩
set_option maxHeartbeats 1600000 in
theorem idig (r : Nat) (w : World) : Calls Try.prog 57 #[.int .i32 (r : Int)] w fun e w' => e = .returned (.bool (Nm.isDig r)) ∧ w' = w := by
  rcases (by omega : (r < 45) ∨ (r = 45) ∨ (45 < r ∧ r < 48) ∨ (48 ≤ r ∧ r ≤ 57) ∨ (57 < r)) with h | h | h | h | h
  · rw [show Nm.isDig r = false by simp [Nm.isDig] <;> omega]
    have l0 : decide ((r : Int) ≤ 57) = true := by simp <;> omega
    have g0 : decide ((48 : Int) ≤ r) = false := by simp <;> omega
    have e0 : ((r : Int) == 45) = false := by simp <;> omega
    have f0 : ((r : Int) != 45) = true := by simp <;> omega
    go_enter Try.func57, Try.ntmps57
    go_wp2
    go_ret
    exact ⟨rfl, rfl⟩
  · rw [show Nm.isDig r = true by simp [Nm.isDig] <;> omega]
    have l0 : decide ((r : Int) ≤ 57) = true := by simp <;> omega
    have g0 : decide ((48 : Int) ≤ r) = false := by simp <;> omega
    have e0 : ((r : Int) == 45) = true := by simp <;> omega
    have f0 : ((r : Int) != 45) = false := by simp <;> omega
    go_enter Try.func57, Try.ntmps57
    go_wp2
    go_ret
    exact ⟨rfl, rfl⟩
  · rw [show Nm.isDig r = false by simp [Nm.isDig] <;> omega]
    have l0 : decide ((r : Int) ≤ 57) = true := by simp <;> omega
    have g0 : decide ((48 : Int) ≤ r) = false := by simp <;> omega
    have e0 : ((r : Int) == 45) = false := by simp <;> omega
    have f0 : ((r : Int) != 45) = true := by simp <;> omega
    go_enter Try.func57, Try.ntmps57
    go_wp2
    go_ret
    exact ⟨rfl, rfl⟩
  · rw [show Nm.isDig r = true by simp [Nm.isDig] <;> omega]
    have l0 : decide ((r : Int) ≤ 57) = true := by simp <;> omega
    have g0 : decide ((48 : Int) ≤ r) = true := by simp <;> omega
    have e0 : ((r : Int) == 45) = false := by simp <;> omega
    have f0 : ((r : Int) != 45) = true := by simp <;> omega
    go_enter Try.func57, Try.ntmps57
    go_wp2
    go_ret
    exact ⟨rfl, rfl⟩
  · rw [show Nm.isDig r = false by simp [Nm.isDig] <;> omega]
    have l0 : decide ((r : Int) ≤ 57) = false := by simp <;> omega
    have g0 : decide ((48 : Int) ≤ r) = true := by simp <;> omega
    have e0 : ((r : Int) == 45) = false := by simp <;> omega
    have f0 : ((r : Int) != 45) = true := by simp <;> omega
    go_enter Try.func57, Try.ntmps57
    go_wp2
    go_ret
    exact ⟨rfl, rfl⟩
theorem ret_i {a b : Int} (h : a = b) : Ending.returned (.int .i64 a) = .returned (.int .i64 b) := by rw [h]
theorem get_at (s : ByteArray) (p : Nat) (h : p < s.size) : s.get! p = s[p]'h := by
  show s.data[p]! = s.data[p]'_
  exact getElem!_pos s.data p h
set_option maxHeartbeats 1600000 in
theorem swell (s : ByteArray) (hm : s.size ≤ 1000000000) (w : World) : Calls Try.prog 55 #[.string s] w fun e w' => e = .returned (.int .i64 (Nm.well s)) ∧ Below w.heap.size w w' := by
  have hk0 : (w.iter s 0).heap[w.heap.size]? = some (.stringIter s 0) := World.iter_heap w s 0
  have hb0 : Below w.heap.size w (w.iter s 0) := (Below.refl _ w).alloc (Nat.le_refl _) _
  go_enter Try.func55, Try.ntmps55
  go_wp2
  go_loopw [2] (fun q wr => q = .int .i64 0 ∧ ∃ (p f : Nat), p ≤ s.size ∧ s.size - p ≤ f ∧ Hid (Nm.wellF s f p = Nm.well s) ∧ wr.heap[w.heap.size]? = some (.stringIter s p) ∧ Below w.heap.size w wr) (fun _ wr => s.size - wr.iterPos w.heap.size)
  case atStart => exact ⟨rfl, 0, s.size, Nat.zero_le _, by omega, rfl, hk0, hb0⟩
  case round =>
    obtain ⟨rfl, p, f, hp, hf, HT, hk, hB⟩ := hrel
    clear hk0 hb0
    have hmu : wr.iterPos w.heap.size = p := by simp [World.iterPos, hk]
    by_cases hlt : p < s.size
    · obtain ⟨f, rfl⟩ : ∃ f', f = f' + 1 := ⟨f - 1, by omega⟩
      obtain ⟨w1, w2⟩ := Nm.wd_pos hlt
      have hnext : ∀ ty, (Instr.next (.pointer (some ⟨w.heap.size, 0, none⟩)) true ty).run Try.prog wr = _ := fun ty => Lib.run_next_any_at wr w.heap.size s p ty hk hlt
      have hk1 := Lib.iterAt_heap wr w.heap.size s p (p + (Utf8.decode s p).2) hk
      have hB1 : Below w.heap.size w (wr.iterAt w.heap.size s (p + (Utf8.decode s p).2)) := Lib.below_iterAt hB (Nat.le_refl _) s _
      rw [show (Utf8.decode s p).2 = Nm.wd s p from rfl] at hnext hk1 hB1
      rw [show (Utf8.decode s p).1 = Nm.rn s p from rfl] at hnext
      have HF := HT.out
      unfold Nm.wellF at HF
      rw [if_pos hlt] at HF
      have hbd : Nm.bad s p = (decide (Nm.rn s p = 65533) && !(decide (p + 2 < s.size) && ((s.get! p).toNat == 239 && ((s.get! (p + 1)).toNat == 191 && (s.get! (p + 2)).toNat == 189)))) := rfl
      generalize Nm.bad s p = bd at HF hbd
      generalize Nm.rn s p = r at hnext hbd
      generalize Nm.wd s p = d at hnext hk1 hB1 w1 w2 HF
      generalize wr.iterAt w.heap.size s (p + d) = W1 at hnext hk1 hB1
      have HK : Hid (W1.heap[w.heap.size]? = some (.stringIter s (p + d)) ∧ Below w.heap.size w W1) := ⟨hk1, hB1⟩
      have HG : Hid ((if bd = true then (p : Int) else Nm.wellF s f (p + d)) = Nm.well s) := HF
      clear HF HT hk1 hB1
      by_cases h0 : r = 65533
      · subst h0
        by_cases h1 : p + 2 < s.size
        · have h1I : (p : Int) + 2 < s.size := by omega
          have b0 := get_at s p hlt
          have b1 := get_at s (p + 1) (by omega)
          have b2 := get_at s (p + 2) h1
          generalize s.get! p = c0 at b0 hbd
          generalize s.get! (p + 1) = c1 at b1 hbd
          generalize s.get! (p + 2) = c2 at b2 hbd
          have b0' := b0.symm
          have b1' := b1.symm
          have b2' := b2.symm
          clear b0 b1 b2
          by_cases q0 : c0.toNat = 239
          · have d0 : ((c0.toNat : Int) == 239) = true := by simp <;> omega
            by_cases q1 : c1.toNat = 191
            · have d1 : ((c1.toNat : Int) == 191) = true := by simp <;> omega
              by_cases q2 : c2.toNat = 189
              · have d2 : ((c2.toNat : Int) == 189) = true := by simp <;> omega
                have hb : bd = false := by rw [hbd]; simp [h1, q0, q1, q2]
                have HR : Hid (Nm.wellF s f (p + d) = Nm.well s) := by have h := HG.out; rw [hb] at h; exact h
                clear HG hbd hb
                go_wp2
                go_roundw
                case rel => exact ⟨rfl, p + d, f, by omega, by omega, HR, HK.out.1, HK.out.2⟩
                case measure =>
                  have hmu2 : W1.iterPos w.heap.size = p + d := by simp [World.iterPos, HK.out.1]
                  rw [hmu, hmu2]
                  omega
              · have d2 : ((c2.toNat : Int) == 189) = false := by simp <;> omega
                have hb : bd = true := by rw [hbd]; simp [h1, q0, q1, q2]
                have HR : Hid ((p : Int) = Nm.well s) := by have h := HG.out; rw [if_pos hb] at h; exact h
                clear HG hbd hb
                go_wp2
                go_ret
                exact ⟨ret_i HR.out, HK.out.2⟩
            · have d1 : ((c1.toNat : Int) == 191) = false := by simp <;> omega
              have hb : bd = true := by rw [hbd]; simp [h1, q0, q1]
              have HR : Hid ((p : Int) = Nm.well s) := by have h := HG.out; rw [if_pos hb] at h; exact h
              clear HG hbd hb
              go_wp2
              go_ret
              exact ⟨ret_i HR.out, HK.out.2⟩
          · have d0 : ((c0.toNat : Int) == 239) = false := by simp <;> omega
            have hb : bd = true := by rw [hbd]; simp [h1, q0]
            have HR : Hid ((p : Int) = Nm.well s) := by have h := HG.out; rw [if_pos hb] at h; exact h
            clear HG hbd hb
            go_wp2
            go_ret
            exact ⟨ret_i HR.out, HK.out.2⟩
        · have h1I : ¬ ((p : Int) + 2 < s.size) := by omega
          have hb : bd = true := by rw [hbd]; simp [h1]
          have HR : Hid ((p : Int) = Nm.well s) := by have h := HG.out; rw [if_pos hb] at h; exact h
          clear HG hbd hb
          go_wp2
          go_ret
          exact ⟨ret_i HR.out, HK.out.2⟩
      · have h0I : ((r : Int) == 65533) = false := by simp <;> omega
        have hb : bd = false := by rw [hbd]; simp [h0]
        have HR : Hid (Nm.wellF s f (p + d) = Nm.well s) := by have h := HG.out; rw [hb] at h; exact h
        clear HG hbd hb
        go_wp2
        go_roundw
        case rel => exact ⟨rfl, p + d, f, by omega, by omega, HR, HK.out.1, HK.out.2⟩
        case measure =>
          have hmu2 : W1.iterPos w.heap.size = p + d := by simp [World.iterPos, HK.out.1]
          rw [hmu, hmu2]
          omega
    · have hnext : ∀ ty, (Instr.next (.pointer (some ⟨w.heap.size, 0, none⟩)) true ty).run Try.prog wr = _ := fun ty => Lib.run_next_end_at wr w.heap.size s p ty hk hlt
      have hend : Nm.well s = -1 := by
        rw [← HT.out]
        cases f with
        | zero => rfl
        | succ f => unfold Nm.wellF; rw [if_neg hlt]
      have HE : Hid (Nm.well s = -1) := hend
      clear hend HT
      go_wp2
      go_ret
      exact ⟨ret_i HE.out.symm, hB⟩
end Go.Proofs.Ytfdgnafakjlhaaa
