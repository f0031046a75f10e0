/- The program's GlassFault: its contract. The laws' own sizes, copies and comparison of glasses: contracts. -/
import Derived.Test.YtndfncjoknibaaaDoorGf
import Derived.Test.YtndfncjoknibaaaDoorSame
namespace Go.Proofs.YtndfncjoknibaaaDoor
open Go.RowKit Fl
set_option linter.unusedVariables false
set_option maxHeartbeats 800000 in
theorem iGF_name (s : ByteArray) (kd lo hi : Int) (ao : Option Addr) (n cap x : Nat) (w : World) (h : nameB s = false) :
    Calls Tryd.prog 13 #[.agg #[.string s, .int .i64 kd, .int .i64 lo, .int .i64 hi, .slice ao n cap, .float .f64 x]] w fun e w' => e = .returned (.int .i64 1) ∧ Below w.heap.size w w' := by
  have HS : Hid (∀ w, Calls Tryd.prog 43 #[.string s] w fun e w' => e = .returned (.bool false) ∧ w = w') := by rw [← h]; exact iName_any s
  clear h
  go_enter Tryd.func13, Tryd.ntmps13
  go_wp2_with fail
  go_quiet (first | (go_at_call 43; exact quiet_eq (HS.out _)))
  go_wp2
  go_ret
  exact ⟨rfl, below_drewN ((Below.refl _ _).alloc (Nat.le_refl _) _) _⟩
set_option maxHeartbeats 800000 in
theorem iGF_kind (s : ByteArray) (kd lo hi : Int) (ao : Option Addr) (n cap x : Nat) (w : World) (h : nameB s = true) (hk : kindB kd = false) :
    Calls Tryd.prog 13 #[.agg #[.string s, .int .i64 kd, .int .i64 lo, .int .i64 hi, .slice ao n cap, .float .f64 x]] w fun e w' => e = .returned (.int .i64 1) ∧ Below w.heap.size w w' := by
  have HS : Hid (∀ w, Calls Tryd.prog 43 #[.string s] w fun e w' => e = .returned (.bool true) ∧ w = w') := by rw [← h]; exact iName_any s
  have HK : Hid (∀ w, Calls Tryd.prog 44 #[.int .i64 kd] w fun e w' => e = .returned (.bool false) ∧ w = w') := by rw [← hk]; exact iKind kd
  clear h hk
  go_enter Tryd.func13, Tryd.ntmps13
  go_wp2_with fail
  go_quiet (first | (go_at_call 43; exact quiet_eq (HS.out _)) | (go_at_call 44; exact quiet_eq (HK.out _)))
  go_wp2
  go_ret
  exact ⟨rfl, below_drewN ((Below.refl _ _).alloc (Nat.le_refl _) _) _⟩
set_option maxHeartbeats 800000 in
theorem iGF_many1 (s : ByteArray) (lo hi : Int) (ao : Option Addr) (n cap x : Nat) (w : World) (T : Tab w) (h : nameB s = true) (hm : ¬ (6 : Int) = (n : Int)) :
    Calls Tryd.prog 13 #[.agg #[.string s, .int .i64 1, .int .i64 lo, .int .i64 hi, .slice ao n cap, .float .f64 x]] w fun e w' => e = .returned (.int .i64 1) ∧ Below w.heap.size w w' := by
  have HS : Hid (∀ w, Calls Tryd.prog 43 #[.string s] w fun e w' => e = .returned (.bool true) ∧ w = w') := by rw [← h]; exact iName_any s
  have HK : Hid (∀ w, Calls Tryd.prog 44 #[.int .i64 1] w fun e w' => e = .returned (.bool true) ∧ w = w') := iKind 1
  have hT : ∀ o, (w.alloc o).cell? ⟨0, 1, none⟩ = some (.int .i64 6) := fun o => alloc_keeps T.c1
  have hm2 : ((n : Int) != 6) = true := by rw [bne_iff_ne]; exact fun e => hm e.symm
  clear h hm T
  go_enter Tryd.func13, Tryd.ntmps13
  go_wp2_with fail
  go_quiet (first | (go_at_call 43; exact quiet_eq (HS.out _)) | (go_at_call 44; exact quiet_eq (HK.out _)))
  go_wp2
  go_ret
  exact ⟨rfl, below_drewN ((Below.refl _ _).alloc (Nat.le_refl _) _) _⟩
set_option maxHeartbeats 800000 in
theorem iGF_many2 (s : ByteArray) (lo hi : Int) (ao : Option Addr) (n cap x : Nat) (w : World) (T : Tab w) (h : nameB s = true) (hm : ¬ (3 : Int) = (n : Int)) :
    Calls Tryd.prog 13 #[.agg #[.string s, .int .i64 2, .int .i64 lo, .int .i64 hi, .slice ao n cap, .float .f64 x]] w fun e w' => e = .returned (.int .i64 1) ∧ Below w.heap.size w w' := by
  have HS : Hid (∀ w, Calls Tryd.prog 43 #[.string s] w fun e w' => e = .returned (.bool true) ∧ w = w') := by rw [← h]; exact iName_any s
  have HK : Hid (∀ w, Calls Tryd.prog 44 #[.int .i64 2] w fun e w' => e = .returned (.bool true) ∧ w = w') := iKind 2
  have hT : ∀ o, (w.alloc o).cell? ⟨0, 2, none⟩ = some (.int .i64 3) := fun o => alloc_keeps T.c2
  have hm2 : ((n : Int) != 3) = true := by rw [bne_iff_ne]; exact fun e => hm e.symm
  clear h hm T
  go_enter Tryd.func13, Tryd.ntmps13
  go_wp2_with fail
  go_quiet (first | (go_at_call 43; exact quiet_eq (HS.out _)) | (go_at_call 44; exact quiet_eq (HK.out _)))
  go_wp2
  go_ret
  exact ⟨rfl, below_drewN ((Below.refl _ _).alloc (Nat.le_refl _) _) _⟩
set_option maxHeartbeats 1600000 in
theorem iGF_rest1 (s : ByteArray) (lo hi : Int) (b off cap : Nat) (f : Nat → Int) (x : Nat) (w : World) (T : Tab w) (h : nameB s = true)
    (hc : ∀ i, i < 6 → w.cell? ⟨b, off + i, none⟩ = some (.int .i64 (f i))) :
    Calls Tryd.prog 13 #[.agg #[.string s, .int .i64 1, .int .i64 lo, .int .i64 hi, .slice (some ⟨b, off, none⟩) 6 cap, .float .f64 x]] w fun e w' =>
      e = .returned (.int .i64 (grest lo hi 6 f x)) ∧ Below w.heap.size w w' := by
  have HS : Hid (∀ w, Calls Tryd.prog 43 #[.string s] w fun e w' => e = .returned (.bool true) ∧ w = w') := by rw [← h]; exact iName_any s
  have HK : Hid (∀ w, Calls Tryd.prog 44 #[.int .i64 1] w fun e w' => e = .returned (.bool true) ∧ w = w') := iKind 1
  have hT : ∀ o, (w.alloc o).cell? ⟨0, 1, none⟩ = some (.int .i64 6) := fun o => alloc_keeps T.c1
  have HC2 : Hid (∀ i, i < 6 → ∀ o q, ((w.alloc o).drewN q).cell? ⟨b, off + i, none⟩ = some (.int .i64 (f i))) := fun i hi o q => by rw [World.cell?_drewN]; exact alloc_keeps (hc i hi)
  have HF : Hid (∀ o q, Calls Tryd.prog 45 #[.slice (some ⟨b, off, none⟩) 6 cap, .func (.func 46) #[] #[]] ((w.alloc o).drewN q) fun e w' => e = .returned (.bool (anyBey 6 f)) ∧ (w.alloc o).drewN q = w') := fun o q => contF_any b off 6 cap f _ (by omega) (fun i hi => HC2.out i hi o q)
  clear h hc T HC2
  by_cases r1 : lo < 1
  · rw [restF (by unfold rangeB; simp; omega)]
    go_enter Tryd.func13, Tryd.ntmps13
    go_wp2_with fail
    go_quiet (first | (go_at_call 43; exact quiet_eq (HS.out _)) | (go_at_call 44; exact quiet_eq (HK.out _)))
    go_wp2
    go_ret
    exact ⟨rfl, below_drewN ((Below.refl _ _).alloc (Nat.le_refl _) _) _⟩
  by_cases r2 : 100000 < hi
  · rw [restF (by unfold rangeB; simp; omega)]
    go_enter Tryd.func13, Tryd.ntmps13
    go_wp2_with fail
    go_quiet (first | (go_at_call 43; exact quiet_eq (HS.out _)) | (go_at_call 44; exact quiet_eq (HK.out _)))
    go_wp2
    go_ret
    exact ⟨rfl, below_drewN ((Below.refl _ _).alloc (Nat.le_refl _) _) _⟩
  by_cases r3 : hi < lo
  · rw [restF (by unfold rangeB; simp; omega)]
    go_enter Tryd.func13, Tryd.ntmps13
    go_wp2_with fail
    go_quiet (first | (go_at_call 43; exact quiet_eq (HS.out _)) | (go_at_call 44; exact quiet_eq (HK.out _)))
    go_wp2
    go_ret
    exact ⟨rfl, below_drewN ((Below.refl _ _).alloc (Nat.le_refl _) _) _⟩
  have HRB : Hid (rangeB lo hi = true) := (show rangeB lo hi = true by unfold rangeB; simp; omega)
  have HSH : Hid (∀ w, Calls Tryd.prog 47 #[.float .f64 x] w fun e w' => e = .returned (.bool (shB x)) ∧ w = w') := iShift x
  cases hb : anyBey 6 f
  · rw [hb] at HF
    have HB : Hid (anyBey 6 f = false) := hb
    clear hb
    cases hsh : shB x
    · rw [hsh] at HSH
      have HX : Hid (shB x = false) := hsh
      clear hsh
      go_enter Tryd.func13, Tryd.ntmps13
      go_wp2_with fail
      go_quiet (first | (go_at_call 43; exact quiet_eq (HS.out _)) | (go_at_call 44; exact quiet_eq (HK.out _)))
      go_wp2_with (first | (go_at_call 45; refine (HF.out _ _).mono ?_; rintro e w' ⟨rfl, rfl⟩) | (go_at_call 47; refine (HSH.out _).mono ?_; rintro e w' ⟨rfl, rfl⟩))
      go_ret
      exact ⟨ret_int (by rw [restS HRB.out HB.out, HX.out]; rfl), below_drewN ((Below.refl _ _).alloc (Nat.le_refl _) _) _⟩
    · rw [hsh] at HSH
      have HX : Hid (shB x = true) := hsh
      clear hsh
      go_enter Tryd.func13, Tryd.ntmps13
      go_wp2_with fail
      go_quiet (first | (go_at_call 43; exact quiet_eq (HS.out _)) | (go_at_call 44; exact quiet_eq (HK.out _)))
      go_wp2_with (first | (go_at_call 45; refine (HF.out _ _).mono ?_; rintro e w' ⟨rfl, rfl⟩) | (go_at_call 47; refine (HSH.out _).mono ?_; rintro e w' ⟨rfl, rfl⟩))
      go_ret
      exact ⟨ret_int (by rw [restS HRB.out HB.out, HX.out]; rfl), below_drewN ((Below.refl _ _).alloc (Nat.le_refl _) _) _⟩
  · rw [hb] at HF
    have HB : Hid (anyBey 6 f = true) := hb
    clear hb
    go_enter Tryd.func13, Tryd.ntmps13
    go_wp2_with fail
    go_quiet (first | (go_at_call 43; exact quiet_eq (HS.out _)) | (go_at_call 44; exact quiet_eq (HK.out _)))
    go_wp2_with (first | (go_at_call 45; refine (HF.out _ _).mono ?_; rintro e w' ⟨rfl, rfl⟩) | (go_at_call 47; refine (HSH.out _).mono ?_; rintro e w' ⟨rfl, rfl⟩))
    go_ret
    exact ⟨ret_int (restB HB.out).symm, below_drewN ((Below.refl _ _).alloc (Nat.le_refl _) _) _⟩
set_option maxHeartbeats 1600000 in
theorem iGF_rest2 (s : ByteArray) (lo hi : Int) (b off cap : Nat) (f : Nat → Int) (x : Nat) (w : World) (T : Tab w) (h : nameB s = true)
    (hc : ∀ i, i < 3 → w.cell? ⟨b, off + i, none⟩ = some (.int .i64 (f i))) :
    Calls Tryd.prog 13 #[.agg #[.string s, .int .i64 2, .int .i64 lo, .int .i64 hi, .slice (some ⟨b, off, none⟩) 3 cap, .float .f64 x]] w fun e w' =>
      e = .returned (.int .i64 (grest lo hi 3 f x)) ∧ Below w.heap.size w w' := by
  have HS : Hid (∀ w, Calls Tryd.prog 43 #[.string s] w fun e w' => e = .returned (.bool true) ∧ w = w') := by rw [← h]; exact iName_any s
  have HK : Hid (∀ w, Calls Tryd.prog 44 #[.int .i64 2] w fun e w' => e = .returned (.bool true) ∧ w = w') := iKind 2
  have hT : ∀ o, (w.alloc o).cell? ⟨0, 2, none⟩ = some (.int .i64 3) := fun o => alloc_keeps T.c2
  have HC2 : Hid (∀ i, i < 3 → ∀ o q, ((w.alloc o).drewN q).cell? ⟨b, off + i, none⟩ = some (.int .i64 (f i))) := fun i hi o q => by rw [World.cell?_drewN]; exact alloc_keeps (hc i hi)
  have HF : Hid (∀ o q, Calls Tryd.prog 45 #[.slice (some ⟨b, off, none⟩) 3 cap, .func (.func 46) #[] #[]] ((w.alloc o).drewN q) fun e w' => e = .returned (.bool (anyBey 3 f)) ∧ (w.alloc o).drewN q = w') := fun o q => contF_any b off 3 cap f _ (by omega) (fun i hi => HC2.out i hi o q)
  clear h hc T HC2
  by_cases r1 : lo < 1
  · rw [restF (by unfold rangeB; simp; omega)]
    go_enter Tryd.func13, Tryd.ntmps13
    go_wp2_with fail
    go_quiet (first | (go_at_call 43; exact quiet_eq (HS.out _)) | (go_at_call 44; exact quiet_eq (HK.out _)))
    go_wp2
    go_ret
    exact ⟨rfl, below_drewN ((Below.refl _ _).alloc (Nat.le_refl _) _) _⟩
  by_cases r2 : 100000 < hi
  · rw [restF (by unfold rangeB; simp; omega)]
    go_enter Tryd.func13, Tryd.ntmps13
    go_wp2_with fail
    go_quiet (first | (go_at_call 43; exact quiet_eq (HS.out _)) | (go_at_call 44; exact quiet_eq (HK.out _)))
    go_wp2
    go_ret
    exact ⟨rfl, below_drewN ((Below.refl _ _).alloc (Nat.le_refl _) _) _⟩
  by_cases r3 : hi < lo
  · rw [restF (by unfold rangeB; simp; omega)]
    go_enter Tryd.func13, Tryd.ntmps13
    go_wp2_with fail
    go_quiet (first | (go_at_call 43; exact quiet_eq (HS.out _)) | (go_at_call 44; exact quiet_eq (HK.out _)))
    go_wp2
    go_ret
    exact ⟨rfl, below_drewN ((Below.refl _ _).alloc (Nat.le_refl _) _) _⟩
  have HRB : Hid (rangeB lo hi = true) := (show rangeB lo hi = true by unfold rangeB; simp; omega)
  have HSH : Hid (∀ w, Calls Tryd.prog 47 #[.float .f64 x] w fun e w' => e = .returned (.bool (shB x)) ∧ w = w') := iShift x
  cases hb : anyBey 3 f
  · rw [hb] at HF
    have HB : Hid (anyBey 3 f = false) := hb
    clear hb
    cases hsh : shB x
    · rw [hsh] at HSH
      have HX : Hid (shB x = false) := hsh
      clear hsh
      go_enter Tryd.func13, Tryd.ntmps13
      go_wp2_with fail
      go_quiet (first | (go_at_call 43; exact quiet_eq (HS.out _)) | (go_at_call 44; exact quiet_eq (HK.out _)))
      go_wp2_with (first | (go_at_call 45; refine (HF.out _ _).mono ?_; rintro e w' ⟨rfl, rfl⟩) | (go_at_call 47; refine (HSH.out _).mono ?_; rintro e w' ⟨rfl, rfl⟩))
      go_ret
      exact ⟨ret_int (by rw [restS HRB.out HB.out, HX.out]; rfl), below_drewN ((Below.refl _ _).alloc (Nat.le_refl _) _) _⟩
    · rw [hsh] at HSH
      have HX : Hid (shB x = true) := hsh
      clear hsh
      go_enter Tryd.func13, Tryd.ntmps13
      go_wp2_with fail
      go_quiet (first | (go_at_call 43; exact quiet_eq (HS.out _)) | (go_at_call 44; exact quiet_eq (HK.out _)))
      go_wp2_with (first | (go_at_call 45; refine (HF.out _ _).mono ?_; rintro e w' ⟨rfl, rfl⟩) | (go_at_call 47; refine (HSH.out _).mono ?_; rintro e w' ⟨rfl, rfl⟩))
      go_ret
      exact ⟨ret_int (by rw [restS HRB.out HB.out, HX.out]; rfl), below_drewN ((Below.refl _ _).alloc (Nat.le_refl _) _) _⟩
  · rw [hb] at HF
    have HB : Hid (anyBey 3 f = true) := hb
    clear hb
    go_enter Tryd.func13, Tryd.ntmps13
    go_wp2_with fail
    go_quiet (first | (go_at_call 43; exact quiet_eq (HS.out _)) | (go_at_call 44; exact quiet_eq (HK.out _)))
    go_wp2_with (first | (go_at_call 45; refine (HF.out _ _).mono ?_; rintro e w' ⟨rfl, rfl⟩) | (go_at_call 47; refine (HSH.out _).mono ?_; rintro e w' ⟨rfl, rfl⟩))
    go_ret
    exact ⟨ret_int (restB HB.out).symm, below_drewN ((Below.refl _ _).alloc (Nat.le_refl _) _) _⟩
theorem many_one : many 1 = 6 := rfl
theorem many_two : many 2 = 3 := rfl
theorem kind_of {kd : Int} (h : kindB kd = true) : kd = 1 ∨ kd = 2 := by unfold kindB at h; simpa using h
theorem many_no {kd : Int} (h : kindB kd = false) (n : Nat) : ¬ many kd = (n : Int) := by
  unfold kindB at h
  simp at h
  unfold many
  rw [if_neg h.1, if_neg h.2]
  omega
theorem iGF_slice (s : ByteArray) (kd lo hi : Int) (ao : Option Addr) (n cap x : Nat) (w : World) (T : Tab w) (h : ¬ (nameB s = true ∧ many kd = (n : Int))) :
    Calls Tryd.prog 13 #[.agg #[.string s, .int .i64 kd, .int .i64 lo, .int .i64 hi, .slice ao n cap, .float .f64 x]] w fun e w' => e = .returned (.int .i64 1) ∧ Below w.heap.size w w' := by
  cases hs : nameB s
  · exact iGF_name s kd lo hi ao n cap x w hs
  · cases hk : kindB kd
    · exact iGF_kind s kd lo hi ao n cap x w hs hk
    · rcases kind_of hk with rfl | rfl
      · exact iGF_many1 s lo hi ao n cap x w T hs (fun e => h ⟨hs, e⟩)
      · exact iGF_many2 s lo hi ao n cap x w T hs (fun e => h ⟨hs, e⟩)
/-- The program's GlassFault. -/
theorem iGF_any {s : ByteArray} {kd lo hi : Int} {v : Value} {n : Nat} {f : Nat → Int} {x : Nat} {w : World} (h : RdRow w v n f) (T : Tab w) :
    Calls Tryd.prog 13 #[.agg #[.string s, .int .i64 kd, .int .i64 lo, .int .i64 hi, v, .float .f64 x]] w fun e w' => e = .returned (.int .i64 (gfault s kd lo hi n f x)) ∧ Below w.heap.size w w' := by
  rcases h with ⟨ao, cap, rfl, rfl⟩ | ⟨b, off, cap, rfl, hc⟩
  · rw [gfault_form (fun e => many_ne_zero kd e.2)]
    exact iGF_slice s kd lo hi ao 0 cap x w T (fun e => many_ne_zero kd e.2)
  · by_cases hf : nameB s = true ∧ many kd = (n : Int)
    · rw [gfault_rest hf.1 hf.2]
      obtain ⟨hs, hm⟩ := hf
      cases hk : kindB kd
      · exact absurd hm (many_no hk n)
      · rcases kind_of hk with rfl | rfl
        · obtain rfl : n = 6 := by rw [many_one] at hm; omega
          exact iGF_rest1 s lo hi b off cap f x w T hs hc
        · obtain rfl : n = 3 := by rw [many_two] at hm; omega
          exact iGF_rest2 s lo hi b off cap f x w T hs hc
    · rw [gfault_form hf]
      exact iGF_slice s kd lo hi _ n cap x w T hf
end Go.Proofs.YtndfncjoknibaaaDoor
