/- Names of lenses: both packages' LensName. -/
import Derived.Test.YtfdgnafakjlhaaaNa
namespace Go.Proofs.Ytfdgnafakjlhaaa
open Go.RowKit
set_option linter.unusedVariables false
set_option linter.unusedSimpArgs false
theorem ret_b {a b : Bool} (h : a = b) : Ending.returned (.bool a) = .returned (.bool b) := by rw [h]
set_option maxHeartbeats 3200000 in
theorem iname_in (s : ByteArray) (w : World) (hsz : 1 ≤ s.size) (h40 : s.size ≤ 40) : Calls Try.prog 16 #[.string s] w fun e w' => e = .returned (.bool (Nm.name s)) ∧ Below w.heap.size w w' := by
  have hk0 : (w.iter s 0).heap[w.heap.size]? = some (.stringIter s 0) := World.iter_heap w s 0
  have hb0 : Below w.heap.size w (w.iter s 0) := (Below.refl _ w).alloc (Nat.le_refl _) _
  have hnm : Hid (Nm.nameF s s.size 0 = Nm.name s) := by unfold Nm.name; rw [if_pos ⟨hsz, h40⟩]; exact rfl
  go_enter Try.func16, Try.ntmps16
  go_wp2
  go_loopw [2] (fun q wr => q = .bool false ∧ ∃ (p f : Nat), p ≤ s.size ∧ s.size - p ≤ f ∧ Hid (Nm.nameF s f p = Nm.name s) ∧ wr.heap[w.heap.size]? = some (.stringIter s p) ∧ Below w.heap.size w wr) (fun _ wr => s.size - wr.iterPos w.heap.size)
  case atStart => exact ⟨rfl, 0, s.size, Nat.zero_le _, by omega, hnm, hk0, hb0⟩
  case round =>
    obtain ⟨rfl, p, f, hp, hf, HT, hk, hB⟩ := hrel
    clear hk0 hb0
    have hmu : wr.iterPos w.heap.size = p := by simp [World.iterPos, hk]
    by_cases hlt : p < s.size
    · obtain ⟨f, rfl⟩ : ∃ f', f = f' + 1 := ⟨f - 1, by omega⟩
      obtain ⟨w1, w2⟩ := Nm.wd_pos hlt
      have hnext : ∀ ty, (Instr.next (.pointer (some ⟨w.heap.size, 0, none⟩)) true ty).run Try.prog wr = _ := fun ty => Lib.run_next_any_at wr w.heap.size s p ty hk hlt
      have hk1 := Lib.iterAt_heap wr w.heap.size s p (p + (Utf8.decode s p).2) hk
      have hB1 : Below w.heap.size w (wr.iterAt w.heap.size s (p + (Utf8.decode s p).2)) := Lib.below_iterAt hB (Nat.le_refl _) s _
      rw [show (Utf8.decode s p).2 = Nm.wd s p from rfl] at hnext hk1 hB1
      rw [show (Utf8.decode s p).1 = Nm.rn s p from rfl] at hnext
      have HF := HT.out
      unfold Nm.nameF at HF
      rw [if_pos hlt] at HF
      have hbd : Nm.okAt p (Nm.rn s p) = (Nm.isLet (Nm.rn s p) || (decide (p ≠ 0) && Nm.isDig (Nm.rn s p))) := rfl
      generalize Nm.okAt p (Nm.rn s p) = ok at HF hbd
      generalize Nm.rn s p = r at hnext hbd
      generalize Nm.wd s p = d at hnext hk1 hB1 w1 w2 HF
      generalize wr.iterAt w.heap.size s (p + d) = W1 at hnext hk1 hB1
      have HK : Hid (W1.heap[w.heap.size]? = some (.stringIter s (p + d)) ∧ Below w.heap.size w W1) := ⟨hk1, hB1⟩
      have HG : Hid ((if ok = true then Nm.nameF s f (p + d) else false) = Nm.name s) := HF
      clear HF HT hk1 hB1
      cases c1 : Nm.isLet r
      · by_cases c2 : p = 0
        · have d2 : ((p : Int) == 0) = true := by simp <;> omega
          have hok : ok = false := by rw [hbd]; simp [c1, c2]
          clear hbd
          have HR : Hid (false = Nm.name s) := by have h := HG.out; rw [hok] at h; exact h
          clear HG hok
          go_wp2_with (first | (go_at_call 56; refine (ilet r _).mono ?_; rintro e w5 ⟨rfl, h5⟩; replace h5 := h5.symm; subst h5) | (go_at_call 57; refine (idig r _).mono ?_; rintro e w6 ⟨rfl, h6⟩; replace h6 := h6.symm; subst h6))
          go_ret
          exact ⟨ret_b HR.out, HK.out.2⟩
        · have d2 : ((p : Int) == 0) = false := by simp <;> omega
          cases c3 : Nm.isDig r
          · have hok : ok = false := by rw [hbd]; simp [c1, c2, c3]
            clear hbd
            have HR : Hid (false = Nm.name s) := by have h := HG.out; rw [hok] at h; exact h
            clear HG hok
            go_wp2_with (first | (go_at_call 56; refine (ilet r _).mono ?_; rintro e w5 ⟨rfl, h5⟩; replace h5 := h5.symm; subst h5) | (go_at_call 57; refine (idig r _).mono ?_; rintro e w6 ⟨rfl, h6⟩; replace h6 := h6.symm; subst h6))
            go_ret
            exact ⟨ret_b HR.out, HK.out.2⟩
          · have hok : ok = true := by rw [hbd]; simp [c1, c2, c3]
            clear hbd
            have HR : Hid (Nm.nameF s f (p + d) = Nm.name s) := by have h := HG.out; rw [hok] at h; exact h
            clear HG hok
            go_wp2_with (first | (go_at_call 56; refine (ilet r _).mono ?_; rintro e w5 ⟨rfl, h5⟩; replace h5 := h5.symm; subst h5) | (go_at_call 57; refine (idig r _).mono ?_; rintro e w6 ⟨rfl, h6⟩; replace h6 := h6.symm; subst h6))
            go_roundw
            case rel => exact ⟨rfl, p + d, f, by omega, by omega, HR, HK.out.1, HK.out.2⟩
            case measure =>
              have hmu2 : W1.iterPos w.heap.size = p + d := by simp [World.iterPos, HK.out.1]
              rw [hmu, hmu2]
              omega
      · have hok : ok = true := by rw [hbd]; simp [c1]
        clear hbd
        have HR : Hid (Nm.nameF s f (p + d) = Nm.name s) := by have h := HG.out; rw [hok] at h; exact h
        clear HG hok
        go_wp2_with (first | (go_at_call 56; refine (ilet r _).mono ?_; rintro e w5 ⟨rfl, h5⟩; replace h5 := h5.symm; subst h5) | (go_at_call 57; refine (idig r _).mono ?_; rintro e w6 ⟨rfl, h6⟩; replace h6 := h6.symm; subst h6))
        go_roundw
        case rel => exact ⟨rfl, p + d, f, by omega, by omega, HR, HK.out.1, HK.out.2⟩
        case measure =>
          have hmu2 : W1.iterPos w.heap.size = p + d := by simp [World.iterPos, HK.out.1]
          rw [hmu, hmu2]
          omega
    · have hnext : ∀ ty, (Instr.next (.pointer (some ⟨w.heap.size, 0, none⟩)) true ty).run Try.prog wr = _ := fun ty => Lib.run_next_end_at wr w.heap.size s p ty hk hlt
      have hend : Nm.name s = true := by
        rw [← HT.out]
        cases f with
        | zero => rfl
        | succ f => unfold Nm.nameF; rw [if_neg hlt]
      have HE : Hid (Nm.name s = true) := hend
      clear hend HT
      go_wp2
      go_ret
      exact ⟨ret_b HE.out.symm, hB⟩
theorem iname (s : ByteArray) (w : World) (hs : s.size ≤ 1000000000000) : Calls Try.prog 16 #[.string s] w fun e w' => e = .returned (.bool (Nm.name s)) ∧ Below w.heap.size w w' := by
  by_cases h : 1 ≤ s.size ∧ s.size ≤ 40
  · exact iname_in s w h.1 h.2
  · have hn : Nm.name s = false := by unfold Nm.name; rw [if_neg h]
    rw [hn]
    by_cases h0 : s.size < 1
    · have h0I : (s.size : Int) < 1 := by omega
      go_enter Try.func16, Try.ntmps16
      go_wp2
      go_ret
      exact ⟨rfl, Below.refl _ _⟩
    · have h0I : ¬ (s.size : Int) < 1 := by omega
      have h1I : (40 : Int) < s.size := by omega
      go_enter Try.func16, Try.ntmps16
      go_wp2
      go_ret
      exact ⟨rfl, Below.refl _ _⟩
set_option maxHeartbeats 3200000 in
theorem sname_in (s : ByteArray) (w : World) (hsz : 1 ≤ s.size) (h40 : s.size ≤ 40) (hw : Nm.well s = -1) : Calls Try.prog 15 #[.string s] w fun e w' => e = .returned (.bool (Nm.name s)) ∧ Below w.heap.size w w' := by
  have hnm : Hid (Nm.nameF s s.size 0 = Nm.name s) := by unfold Nm.name; rw [if_pos ⟨hsz, h40⟩]; exact rfl
  have HC : Hid (∀ W, Calls Try.prog 55 #[.string s] W fun e w' => e = .returned (.int .i64 (-1)) ∧ Below W.heap.size W w') := fun W => by have h := swell s (by omega) W; rw [hw] at h; exact h
  clear hw
  go_enter Try.func15, Try.ntmps15
  go_wp2_with (go_at_call 55; refine (HC.out _).mono ?_; rintro e w0 ⟨rfl, hb⟩)
  have hk0 : (w0.iter s 0).heap[w0.heap.size]? = some (.stringIter s 0) := World.iter_heap w0 s 0
  have hb0 : Below w.heap.size w (w0.iter s 0) := hb.alloc hb.size _
  have hle : w.heap.size ≤ w0.heap.size := hb.size
  clear hb
  generalize w0.heap.size = B at hk0 hle ⊢
  go_loopw [2] (fun q wr => q = .bool false ∧ ∃ (p f : Nat), p ≤ s.size ∧ s.size - p ≤ f ∧ Hid (Nm.nameF s f p = Nm.name s) ∧ wr.heap[B]? = some (.stringIter s p) ∧ Below w.heap.size w wr) (fun _ wr => s.size - wr.iterPos B)
  case atStart => exact ⟨rfl, 0, s.size, Nat.zero_le _, by omega, hnm, hk0, hb0⟩
  case round =>
    obtain ⟨rfl, p, f, hp, hf, HT, hk, hB⟩ := hrel
    clear hk0 hb0
    have hmu : wr.iterPos B = p := by simp [World.iterPos, hk]
    by_cases hlt : p < s.size
    · obtain ⟨f, rfl⟩ : ∃ f', f = f' + 1 := ⟨f - 1, by omega⟩
      obtain ⟨w1, w2⟩ := Nm.wd_pos hlt
      have hnext : ∀ ty, (Instr.next (.pointer (some ⟨B, 0, none⟩)) true ty).run Try.prog wr = _ := fun ty => Lib.run_next_any_at wr B s p ty hk hlt
      have hk1 := Lib.iterAt_heap wr B s p (p + (Utf8.decode s p).2) hk
      have hB1 : Below w.heap.size w (wr.iterAt B s (p + (Utf8.decode s p).2)) := Lib.below_iterAt hB hle s _
      rw [show (Utf8.decode s p).2 = Nm.wd s p from rfl] at hnext hk1 hB1
      rw [show (Utf8.decode s p).1 = Nm.rn s p from rfl] at hnext
      have HF := HT.out
      unfold Nm.nameF at HF
      rw [if_pos hlt] at HF
      have hbd : Nm.okAt p (Nm.rn s p) = (Nm.isLet (Nm.rn s p) || (decide (p ≠ 0) && Nm.isDig (Nm.rn s p))) := rfl
      generalize Nm.okAt p (Nm.rn s p) = ok at HF hbd
      generalize Nm.rn s p = r at hnext hbd
      generalize Nm.wd s p = d at hnext hk1 hB1 w1 w2 HF
      generalize wr.iterAt B s (p + d) = W1 at hnext hk1 hB1
      have HK : Hid (W1.heap[B]? = some (.stringIter s (p + d)) ∧ Below w.heap.size w W1) := ⟨hk1, hB1⟩
      have HG : Hid ((if ok = true then Nm.nameF s f (p + d) else false) = Nm.name s) := HF
      clear HF HT hk1 hB1
      rcases (by omega : (r < 45) ∨ (r = 45) ∨ (45 < r ∧ r < 48) ∨ (48 ≤ r ∧ r ≤ 57) ∨ (57 < r ∧ r < 65) ∨ (65 ≤ r ∧ r ≤ 90) ∨ (90 < r ∧ r < 97) ∨ (97 ≤ r ∧ r ≤ 122) ∨ (122 < r ∧ r < 880) ∨ (880 ≤ r ∧ r ≤ 1023) ∨ (1023 < r)) with h | h | h | h | h | h | h | h | h | h | h
      · have c1 : Nm.isLet r = false := by simp [Nm.isLet] <;> omega
        have c3 : Nm.isDig r = false := by simp [Nm.isDig] <;> omega
        have l0 : decide ((r : Int) ≤ 90) = true := by simp <;> omega
        have l1 : decide ((r : Int) ≤ 122) = true := by simp <;> omega
        have l2 : decide ((r : Int) ≤ 1023) = true := by simp <;> omega
        have g0 : decide ((65 : Int) ≤ r) = false := by simp <;> omega
        have g1 : decide ((97 : Int) ≤ r) = false := by simp <;> omega
        have g2 : decide ((880 : Int) ≤ r) = false := by simp <;> omega
        have m0 : decide ((r : Int) < 48) = true := by simp <;> omega
        have n0 : decide ((57 : Int) < r) = false := by simp <;> omega
        have e0 : ((r : Int) == 45) = false := by simp <;> omega
        have f0 : ((r : Int) != 45) = true := by simp <;> omega
        by_cases c2 : p = 0
        · have d2 : ((p : Int) == 0) = true := by simp <;> omega
          have hok : ok = false := by rw [hbd]; simp [c1, c2]
          clear hbd c1 c3 h
          have HR : Hid (false = Nm.name s) := by have h := HG.out; rw [hok] at h; exact h
          clear HG hok
          go_wp2
          go_ret
          exact ⟨ret_b HR.out, HK.out.2⟩
        · have d2 : ((p : Int) == 0) = false := by simp <;> omega
          have hok : ok = false := by rw [hbd]; simp [c1, c2, c3]
          clear hbd c1 c3 h
          have HR : Hid (false = Nm.name s) := by have h := HG.out; rw [hok] at h; exact h
          clear HG hok
          go_wp2
          go_ret
          exact ⟨ret_b HR.out, HK.out.2⟩
      · have c1 : Nm.isLet r = false := by simp [Nm.isLet] <;> omega
        have c3 : Nm.isDig r = true := by simp [Nm.isDig] <;> omega
        have l0 : decide ((r : Int) ≤ 90) = true := by simp <;> omega
        have l1 : decide ((r : Int) ≤ 122) = true := by simp <;> omega
        have l2 : decide ((r : Int) ≤ 1023) = true := by simp <;> omega
        have g0 : decide ((65 : Int) ≤ r) = false := by simp <;> omega
        have g1 : decide ((97 : Int) ≤ r) = false := by simp <;> omega
        have g2 : decide ((880 : Int) ≤ r) = false := by simp <;> omega
        have m0 : decide ((r : Int) < 48) = true := by simp <;> omega
        have n0 : decide ((57 : Int) < r) = false := by simp <;> omega
        have e0 : ((r : Int) == 45) = true := by simp <;> omega
        have f0 : ((r : Int) != 45) = false := by simp <;> omega
        by_cases c2 : p = 0
        · have d2 : ((p : Int) == 0) = true := by simp <;> omega
          have hok : ok = false := by rw [hbd]; simp [c1, c2]
          clear hbd c1 c3 h
          have HR : Hid (false = Nm.name s) := by have h := HG.out; rw [hok] at h; exact h
          clear HG hok
          go_wp2
          go_ret
          exact ⟨ret_b HR.out, HK.out.2⟩
        · have d2 : ((p : Int) == 0) = false := by simp <;> omega
          have hok : ok = true := by rw [hbd]; simp [c1, c2, c3]
          clear hbd c1 c3 h
          have HR : Hid (Nm.nameF s f (p + d) = Nm.name s) := by have h := HG.out; rw [hok] at h; exact h
          clear HG hok
          go_wp2
          go_roundw
          case rel => exact ⟨rfl, p + d, f, by omega, by omega, HR, HK.out.1, HK.out.2⟩
          case measure =>
            have hmu2 : W1.iterPos B = p + d := by simp [World.iterPos, HK.out.1]
            rw [hmu, hmu2]
            omega
      · have c1 : Nm.isLet r = false := by simp [Nm.isLet] <;> omega
        have c3 : Nm.isDig r = false := by simp [Nm.isDig] <;> omega
        have l0 : decide ((r : Int) ≤ 90) = true := by simp <;> omega
        have l1 : decide ((r : Int) ≤ 122) = true := by simp <;> omega
        have l2 : decide ((r : Int) ≤ 1023) = true := by simp <;> omega
        have g0 : decide ((65 : Int) ≤ r) = false := by simp <;> omega
        have g1 : decide ((97 : Int) ≤ r) = false := by simp <;> omega
        have g2 : decide ((880 : Int) ≤ r) = false := by simp <;> omega
        have m0 : decide ((r : Int) < 48) = true := by simp <;> omega
        have n0 : decide ((57 : Int) < r) = false := by simp <;> omega
        have e0 : ((r : Int) == 45) = false := by simp <;> omega
        have f0 : ((r : Int) != 45) = true := by simp <;> omega
        by_cases c2 : p = 0
        · have d2 : ((p : Int) == 0) = true := by simp <;> omega
          have hok : ok = false := by rw [hbd]; simp [c1, c2]
          clear hbd c1 c3 h
          have HR : Hid (false = Nm.name s) := by have h := HG.out; rw [hok] at h; exact h
          clear HG hok
          go_wp2
          go_ret
          exact ⟨ret_b HR.out, HK.out.2⟩
        · have d2 : ((p : Int) == 0) = false := by simp <;> omega
          have hok : ok = false := by rw [hbd]; simp [c1, c2, c3]
          clear hbd c1 c3 h
          have HR : Hid (false = Nm.name s) := by have h := HG.out; rw [hok] at h; exact h
          clear HG hok
          go_wp2
          go_ret
          exact ⟨ret_b HR.out, HK.out.2⟩
      · have c1 : Nm.isLet r = false := by simp [Nm.isLet] <;> omega
        have c3 : Nm.isDig r = true := by simp [Nm.isDig] <;> omega
        have l0 : decide ((r : Int) ≤ 90) = true := by simp <;> omega
        have l1 : decide ((r : Int) ≤ 122) = true := by simp <;> omega
        have l2 : decide ((r : Int) ≤ 1023) = true := by simp <;> omega
        have g0 : decide ((65 : Int) ≤ r) = false := by simp <;> omega
        have g1 : decide ((97 : Int) ≤ r) = false := by simp <;> omega
        have g2 : decide ((880 : Int) ≤ r) = false := by simp <;> omega
        have m0 : decide ((r : Int) < 48) = false := by simp <;> omega
        have n0 : decide ((57 : Int) < r) = false := by simp <;> omega
        have e0 : ((r : Int) == 45) = false := by simp <;> omega
        have f0 : ((r : Int) != 45) = true := by simp <;> omega
        by_cases c2 : p = 0
        · have d2 : ((p : Int) == 0) = true := by simp <;> omega
          have hok : ok = false := by rw [hbd]; simp [c1, c2]
          clear hbd c1 c3 h
          have HR : Hid (false = Nm.name s) := by have h := HG.out; rw [hok] at h; exact h
          clear HG hok
          go_wp2
          go_ret
          exact ⟨ret_b HR.out, HK.out.2⟩
        · have d2 : ((p : Int) == 0) = false := by simp <;> omega
          have hok : ok = true := by rw [hbd]; simp [c1, c2, c3]
          clear hbd c1 c3 h
          have HR : Hid (Nm.nameF s f (p + d) = Nm.name s) := by have h := HG.out; rw [hok] at h; exact h
          clear HG hok
          go_wp2
          go_roundw
          case rel => exact ⟨rfl, p + d, f, by omega, by omega, HR, HK.out.1, HK.out.2⟩
          case measure =>
            have hmu2 : W1.iterPos B = p + d := by simp [World.iterPos, HK.out.1]
            rw [hmu, hmu2]
            omega
      · have c1 : Nm.isLet r = false := by simp [Nm.isLet] <;> omega
        have c3 : Nm.isDig r = false := by simp [Nm.isDig] <;> omega
        have l0 : decide ((r : Int) ≤ 90) = true := by simp <;> omega
        have l1 : decide ((r : Int) ≤ 122) = true := by simp <;> omega
        have l2 : decide ((r : Int) ≤ 1023) = true := by simp <;> omega
        have g0 : decide ((65 : Int) ≤ r) = false := by simp <;> omega
        have g1 : decide ((97 : Int) ≤ r) = false := by simp <;> omega
        have g2 : decide ((880 : Int) ≤ r) = false := by simp <;> omega
        have m0 : decide ((r : Int) < 48) = false := by simp <;> omega
        have n0 : decide ((57 : Int) < r) = true := by simp <;> omega
        have e0 : ((r : Int) == 45) = false := by simp <;> omega
        have f0 : ((r : Int) != 45) = true := by simp <;> omega
        by_cases c2 : p = 0
        · have d2 : ((p : Int) == 0) = true := by simp <;> omega
          have hok : ok = false := by rw [hbd]; simp [c1, c2]
          clear hbd c1 c3 h
          have HR : Hid (false = Nm.name s) := by have h := HG.out; rw [hok] at h; exact h
          clear HG hok
          go_wp2
          go_ret
          exact ⟨ret_b HR.out, HK.out.2⟩
        · have d2 : ((p : Int) == 0) = false := by simp <;> omega
          have hok : ok = false := by rw [hbd]; simp [c1, c2, c3]
          clear hbd c1 c3 h
          have HR : Hid (false = Nm.name s) := by have h := HG.out; rw [hok] at h; exact h
          clear HG hok
          go_wp2
          go_ret
          exact ⟨ret_b HR.out, HK.out.2⟩
      · have c1 : Nm.isLet r = true := by simp [Nm.isLet] <;> omega
        have c3 : Nm.isDig r = false := by simp [Nm.isDig] <;> omega
        have l0 : decide ((r : Int) ≤ 90) = true := by simp <;> omega
        have l1 : decide ((r : Int) ≤ 122) = true := by simp <;> omega
        have l2 : decide ((r : Int) ≤ 1023) = true := by simp <;> omega
        have g0 : decide ((65 : Int) ≤ r) = true := by simp <;> omega
        have g1 : decide ((97 : Int) ≤ r) = false := by simp <;> omega
        have g2 : decide ((880 : Int) ≤ r) = false := by simp <;> omega
        have m0 : decide ((r : Int) < 48) = false := by simp <;> omega
        have n0 : decide ((57 : Int) < r) = true := by simp <;> omega
        have e0 : ((r : Int) == 45) = false := by simp <;> omega
        have f0 : ((r : Int) != 45) = true := by simp <;> omega
        have hok : ok = true := by rw [hbd]; simp [c1]
        clear hbd c1 c3 h
        have HR : Hid (Nm.nameF s f (p + d) = Nm.name s) := by have h := HG.out; rw [hok] at h; exact h
        clear HG hok
        go_wp2
        go_roundw
        case rel => exact ⟨rfl, p + d, f, by omega, by omega, HR, HK.out.1, HK.out.2⟩
        case measure =>
          have hmu2 : W1.iterPos B = p + d := by simp [World.iterPos, HK.out.1]
          rw [hmu, hmu2]
          omega
      · have c1 : Nm.isLet r = false := by simp [Nm.isLet] <;> omega
        have c3 : Nm.isDig r = false := by simp [Nm.isDig] <;> omega
        have l0 : decide ((r : Int) ≤ 90) = false := by simp <;> omega
        have l1 : decide ((r : Int) ≤ 122) = true := by simp <;> omega
        have l2 : decide ((r : Int) ≤ 1023) = true := by simp <;> omega
        have g0 : decide ((65 : Int) ≤ r) = true := by simp <;> omega
        have g1 : decide ((97 : Int) ≤ r) = false := by simp <;> omega
        have g2 : decide ((880 : Int) ≤ r) = false := by simp <;> omega
        have m0 : decide ((r : Int) < 48) = false := by simp <;> omega
        have n0 : decide ((57 : Int) < r) = true := by simp <;> omega
        have e0 : ((r : Int) == 45) = false := by simp <;> omega
        have f0 : ((r : Int) != 45) = true := by simp <;> omega
        by_cases c2 : p = 0
        · have d2 : ((p : Int) == 0) = true := by simp <;> omega
          have hok : ok = false := by rw [hbd]; simp [c1, c2]
          clear hbd c1 c3 h
          have HR : Hid (false = Nm.name s) := by have h := HG.out; rw [hok] at h; exact h
          clear HG hok
          go_wp2
          go_ret
          exact ⟨ret_b HR.out, HK.out.2⟩
        · have d2 : ((p : Int) == 0) = false := by simp <;> omega
          have hok : ok = false := by rw [hbd]; simp [c1, c2, c3]
          clear hbd c1 c3 h
          have HR : Hid (false = Nm.name s) := by have h := HG.out; rw [hok] at h; exact h
          clear HG hok
          go_wp2
          go_ret
          exact ⟨ret_b HR.out, HK.out.2⟩
      · have c1 : Nm.isLet r = true := by simp [Nm.isLet] <;> omega
        have c3 : Nm.isDig r = false := by simp [Nm.isDig] <;> omega
        have l0 : decide ((r : Int) ≤ 90) = false := by simp <;> omega
        have l1 : decide ((r : Int) ≤ 122) = true := by simp <;> omega
        have l2 : decide ((r : Int) ≤ 1023) = true := by simp <;> omega
        have g0 : decide ((65 : Int) ≤ r) = true := by simp <;> omega
        have g1 : decide ((97 : Int) ≤ r) = true := by simp <;> omega
        have g2 : decide ((880 : Int) ≤ r) = false := by simp <;> omega
        have m0 : decide ((r : Int) < 48) = false := by simp <;> omega
        have n0 : decide ((57 : Int) < r) = true := by simp <;> omega
        have e0 : ((r : Int) == 45) = false := by simp <;> omega
        have f0 : ((r : Int) != 45) = true := by simp <;> omega
        have hok : ok = true := by rw [hbd]; simp [c1]
        clear hbd c1 c3 h
        have HR : Hid (Nm.nameF s f (p + d) = Nm.name s) := by have h := HG.out; rw [hok] at h; exact h
        clear HG hok
        go_wp2
        go_roundw
        case rel => exact ⟨rfl, p + d, f, by omega, by omega, HR, HK.out.1, HK.out.2⟩
        case measure =>
          have hmu2 : W1.iterPos B = p + d := by simp [World.iterPos, HK.out.1]
          rw [hmu, hmu2]
          omega
      · have c1 : Nm.isLet r = false := by simp [Nm.isLet] <;> omega
        have c3 : Nm.isDig r = false := by simp [Nm.isDig] <;> omega
        have l0 : decide ((r : Int) ≤ 90) = false := by simp <;> omega
        have l1 : decide ((r : Int) ≤ 122) = false := by simp <;> omega
        have l2 : decide ((r : Int) ≤ 1023) = true := by simp <;> omega
        have g0 : decide ((65 : Int) ≤ r) = true := by simp <;> omega
        have g1 : decide ((97 : Int) ≤ r) = true := by simp <;> omega
        have g2 : decide ((880 : Int) ≤ r) = false := by simp <;> omega
        have m0 : decide ((r : Int) < 48) = false := by simp <;> omega
        have n0 : decide ((57 : Int) < r) = true := by simp <;> omega
        have e0 : ((r : Int) == 45) = false := by simp <;> omega
        have f0 : ((r : Int) != 45) = true := by simp <;> omega
        by_cases c2 : p = 0
        · have d2 : ((p : Int) == 0) = true := by simp <;> omega
          have hok : ok = false := by rw [hbd]; simp [c1, c2]
          clear hbd c1 c3 h
          have HR : Hid (false = Nm.name s) := by have h := HG.out; rw [hok] at h; exact h
          clear HG hok
          go_wp2
          go_ret
          exact ⟨ret_b HR.out, HK.out.2⟩
        · have d2 : ((p : Int) == 0) = false := by simp <;> omega
          have hok : ok = false := by rw [hbd]; simp [c1, c2, c3]
          clear hbd c1 c3 h
          have HR : Hid (false = Nm.name s) := by have h := HG.out; rw [hok] at h; exact h
          clear HG hok
          go_wp2
          go_ret
          exact ⟨ret_b HR.out, HK.out.2⟩
      · have c1 : Nm.isLet r = true := by simp [Nm.isLet] <;> omega
        have c3 : Nm.isDig r = false := by simp [Nm.isDig] <;> omega
        have l0 : decide ((r : Int) ≤ 90) = false := by simp <;> omega
        have l1 : decide ((r : Int) ≤ 122) = false := by simp <;> omega
        have l2 : decide ((r : Int) ≤ 1023) = true := by simp <;> omega
        have g0 : decide ((65 : Int) ≤ r) = true := by simp <;> omega
        have g1 : decide ((97 : Int) ≤ r) = true := by simp <;> omega
        have g2 : decide ((880 : Int) ≤ r) = true := by simp <;> omega
        have m0 : decide ((r : Int) < 48) = false := by simp <;> omega
        have n0 : decide ((57 : Int) < r) = true := by simp <;> omega
        have e0 : ((r : Int) == 45) = false := by simp <;> omega
        have f0 : ((r : Int) != 45) = true := by simp <;> omega
        have hok : ok = true := by rw [hbd]; simp [c1]
        clear hbd c1 c3 h
        have HR : Hid (Nm.nameF s f (p + d) = Nm.name s) := by have h := HG.out; rw [hok] at h; exact h
        clear HG hok
        go_wp2
        go_roundw
        case rel => exact ⟨rfl, p + d, f, by omega, by omega, HR, HK.out.1, HK.out.2⟩
        case measure =>
          have hmu2 : W1.iterPos B = p + d := by simp [World.iterPos, HK.out.1]
          rw [hmu, hmu2]
          omega
      · have c1 : Nm.isLet r = false := by simp [Nm.isLet] <;> omega
        have c3 : Nm.isDig r = false := by simp [Nm.isDig] <;> omega
        have l0 : decide ((r : Int) ≤ 90) = false := by simp <;> omega
        have l1 : decide ((r : Int) ≤ 122) = false := by simp <;> omega
        have l2 : decide ((r : Int) ≤ 1023) = false := by simp <;> omega
        have g0 : decide ((65 : Int) ≤ r) = true := by simp <;> omega
        have g1 : decide ((97 : Int) ≤ r) = true := by simp <;> omega
        have g2 : decide ((880 : Int) ≤ r) = true := by simp <;> omega
        have m0 : decide ((r : Int) < 48) = false := by simp <;> omega
        have n0 : decide ((57 : Int) < r) = true := by simp <;> omega
        have e0 : ((r : Int) == 45) = false := by simp <;> omega
        have f0 : ((r : Int) != 45) = true := by simp <;> omega
        by_cases c2 : p = 0
        · have d2 : ((p : Int) == 0) = true := by simp <;> omega
          have hok : ok = false := by rw [hbd]; simp [c1, c2]
          clear hbd c1 c3 h
          have HR : Hid (false = Nm.name s) := by have h := HG.out; rw [hok] at h; exact h
          clear HG hok
          go_wp2
          go_ret
          exact ⟨ret_b HR.out, HK.out.2⟩
        · have d2 : ((p : Int) == 0) = false := by simp <;> omega
          have hok : ok = false := by rw [hbd]; simp [c1, c2, c3]
          clear hbd c1 c3 h
          have HR : Hid (false = Nm.name s) := by have h := HG.out; rw [hok] at h; exact h
          clear HG hok
          go_wp2
          go_ret
          exact ⟨ret_b HR.out, HK.out.2⟩
    · have hnext : ∀ ty, (Instr.next (.pointer (some ⟨B, 0, none⟩)) true ty).run Try.prog wr = _ := fun ty => Lib.run_next_end_at wr B s p ty hk hlt
      have hend : Nm.name s = true := by
        rw [← HT.out]
        cases f with
        | zero => rfl
        | succ f => unfold Nm.nameF; rw [if_neg hlt]
      have HE : Hid (Nm.name s = true) := hend
      clear hend HT
      go_wp2
      go_ret
      exact ⟨ret_b HE.out.symm, hB⟩
theorem sname (s : ByteArray) (w : World) (hs : s.size ≤ 1000000000) : Calls Try.prog 15 #[.string s] w fun e w' => e = .returned (.bool (Nm.name s)) ∧ Below w.heap.size w w' := by
  by_cases h : 1 ≤ s.size ∧ s.size ≤ 40
  · rcases Nm.wellF_rng s s.size 0 with e | e
    · exact sname_in s w h.1 h.2 e
    · rw [Nm.name_bad e]
      have HC : Hid (∀ W, Calls Try.prog 55 #[.string s] W fun e w' => e = .returned (.int .i64 (Nm.well s)) ∧ Below W.heap.size W w') := fun W => swell s hs W
      have h0 : (0 : Int) ≤ Nm.well s := e
      obtain ⟨h1, h2⟩ := h
      clear e
      generalize Nm.well s = z at HC h0
      go_enter Try.func15, Try.ntmps15
      go_wp2_with (go_at_call 55; refine (HC.out _).mono ?_; rintro e w0 ⟨rfl, hb⟩)
      go_ret
      exact ⟨rfl, hb⟩
  · have hn : Nm.name s = false := by unfold Nm.name; rw [if_neg h]
    rw [hn]
    by_cases h0 : s.size < 1
    · have h0I : (s.size : Int) < 1 := by omega
      go_enter Try.func15, Try.ntmps15
      go_wp2
      go_ret
      exact ⟨rfl, Below.refl _ _⟩
    · have h0I : ¬ (s.size : Int) < 1 := by omega
      have h1I : (40 : Int) < s.size := by omega
      go_enter Try.func15, Try.ntmps15
      go_wp2
      go_ret
      exact ⟨rfl, Below.refl _ _⟩
end Go.Proofs.Ytfdgnafakjlhaaa
