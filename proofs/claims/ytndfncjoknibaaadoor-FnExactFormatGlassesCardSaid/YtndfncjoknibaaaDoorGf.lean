/- What is wrong with a glass: contracts of the specification's and the program's GlassFault. -/
import Derived.Test.YtndfncjoknibaaaDoorGn
import Derived.Deep.LoopGhost
import Derived.Deep.Draws
namespace Go.Proofs.YtndfncjoknibaaaDoor
open Go.RowKit Fl
set_option linter.unusedVariables false
/-- The program's table of counts. -/
structure Tab (w : World) : Prop where
  c1 : w.cell? ⟨0, 1, none⟩ = some (.int .i64 6)
  c2 : w.cell? ⟨0, 2, none⟩ = some (.int .i64 3)
theorem Tab.pos {w : World} (h : Tab w) : 0 < w.heap.size := World.block_lt_of_cell? _ _ h.c1
theorem Tab.below {w w' : World} {B : Nat} (h : Tab w) (hb : Below B w w') (hB : 0 < B) : Tab w' := ⟨(hb.cell hB).trans h.c1, (hb.cell hB).trans h.c2⟩
theorem Tab.later {w w' : World} (h : Tab w) (hb : Below w.heap.size w w') : Tab w' := h.below hb h.pos
theorem alloc_keeps {w : World} {o : Obj} {p : Addr} {v : Value} (h : w.cell? p = some v) : (w.alloc o).cell? p = some v := by
  have hb : Below w.heap.size w (w.alloc o) := (Below.refl _ _).alloc (Nat.le_refl _) _
  exact (hb.cell (World.block_lt_of_cell? _ _ h)).trans h
set_option maxHeartbeats 800000 in
theorem idxF_any (b off n cap : Nat) (f : Nat → Int) (w : World) (hn : n ≤ 1000000000000) (hc : ∀ i, i < n → w.cell? ⟨b, off + i, none⟩ = some (.int .i64 (f i))) :
    Calls Tryd.prog 71 #[.slice (some ⟨b, off, none⟩) n cap, .func (.func 46) #[] #[]] w fun e w' => ∃ r : Int, e = .returned (.int .i64 r) ∧ anyBey n f = decide (0 ≤ r) ∧ w = w' := by
  have HC : Hid (∀ i, i < n → w.cell? ⟨b, off + i, none⟩ = some (.int .i64 (f i))) := hc
  clear hc
  go_enter Tryd.func71, Tryd.ntmps71
  go_wp2
  go_loop [8] (fun i => ∃ k : Nat, k ≤ n ∧ i = .int .i64 k ∧ Hid (∀ j, j < k → beyB (f j) = false)) (fun i => n - (intOf i).toNat)
  case atStart => exact ⟨0, Nat.zero_le _, rfl, fun j hj => absurd hj (Nat.not_lt_zero _)⟩
  case round =>
    obtain ⟨k, hk, rfl, HA⟩ := hrel
    by_cases hlt : k < n
    · have g1 := HC.out k hlt
      cases hb : beyB (f k)
      · have HB : Hid (∀ w, Calls Tryd.prog 46 #[.int .i64 (f k)] w fun e w' => e = .returned (.bool false) ∧ w = w') := by rw [← hb]; exact iBeyond _
        have HB2 : Hid (beyB (f k) = false) := hb
        clear hb
        go_wp2_with (go_at_call 46; refine (HB.out _).mono ?_; rintro e w' ⟨rfl, rfl⟩)
        go_round
        case rel => exact ⟨k + 1, by omega, by go_num, fun j hj => by by_cases e : j = k; exact (by rw [e]; exact HB2.out); exact HA.out j (by omega)⟩
        case measure => simp [intOf]; omega
      · have HB : Hid (∀ w, Calls Tryd.prog 46 #[.int .i64 (f k)] w fun e w' => e = .returned (.bool true) ∧ w = w') := by rw [← hb]; exact iBeyond _
        have HB2 : Hid (beyB (f k) = true) := hb
        clear hb
        go_wp2_with (go_at_call 46; refine (HB.out _).mono ?_; rintro e w' ⟨rfl, rfl⟩)
        go_ret
        exact ⟨_, rfl, by rw [anyBey_some hlt HB2.out]; simp, rfl⟩
    · obtain rfl : k = n := by omega
      go_wp2
      go_ret
      exact ⟨_, rfl, by rw [anyBey_all HA.out]; simp, rfl⟩
theorem contF_any (b off n cap : Nat) (f : Nat → Int) (w : World) (hn : n ≤ 1000000000000) (hc : ∀ i, i < n → w.cell? ⟨b, off + i, none⟩ = some (.int .i64 (f i))) :
    Calls Tryd.prog 45 #[.slice (some ⟨b, off, none⟩) n cap, .func (.func 46) #[] #[]] w fun e w' => e = .returned (.bool (anyBey n f)) ∧ w = w' := by
  have H := idxF_any b off n cap f w hn hc
  clear hc
  go_enter Tryd.func45, Tryd.ntmps45
  go_wp2_with fail
  refine H.mono ?_
  rintro e w1 ⟨r, rfl, hr, rfl⟩
  have HR : Hid (anyBey n f = decide (0 ≤ r)) := hr
  clear hr H
  go_wp2
  go_ret
  exact ⟨ret_bool HR.out.symm, rfl⟩
set_option maxHeartbeats 800000 in
theorem sGF_name (s : ByteArray) (kd lo hi : Int) (ao : Option Addr) (n cap x : Nat) (w : World) (h : nameB s = false) :
    Calls Tryd.prog 11 #[.agg #[.string s, .int .i64 kd, .int .i64 lo, .int .i64 hi, .slice ao n cap, .float .f64 x]] w fun e w' => e = .returned (.int .i64 1) ∧ Below w.heap.size w w' := by
  have HS : Hid (∀ w, Calls Tryd.prog 39 #[.string s] w fun e w' => e = .returned (.bool false) ∧ w = w') := by rw [← h]; exact sName_any s
  clear h
  go_enter Tryd.func11, Tryd.ntmps11
  go_wp2_with fail
  go_quiet (first | (go_at_call 39; exact quiet_eq (HS.out _)))
  go_wp2
  go_ret
  exact ⟨rfl, below_drewN ((Below.refl _ _).alloc (Nat.le_refl _) _) _⟩
set_option maxHeartbeats 800000 in
theorem sGF_many (s : ByteArray) (kd lo hi : Int) (ao : Option Addr) (n cap x : Nat) (w : World) (h : nameB s = true) (hm : ¬ many kd = (n : Int)) :
    Calls Tryd.prog 11 #[.agg #[.string s, .int .i64 kd, .int .i64 lo, .int .i64 hi, .slice ao n cap, .float .f64 x]] w fun e w' => e = .returned (.int .i64 1) ∧ Below w.heap.size w w' := by
  have HS : Hid (∀ w, Calls Tryd.prog 39 #[.string s] w fun e w' => e = .returned (.bool true) ∧ w = w') := by rw [← h]; exact sName_any s
  have HM : Hid (∀ w, Calls Tryd.prog 40 #[.int .i64 kd] w fun e w' => e = .returned (.int .i64 (many kd)) ∧ w = w') := sMany kd
  clear h
  generalize many kd = m at *
  go_enter Tryd.func11, Tryd.ntmps11
  go_wp2_with fail
  go_quiet (first | (go_at_call 39; exact quiet_eq (HS.out _)) | (go_at_call 40; exact quiet_eq (HM.out _)))
  go_wp2
  go_ret
  exact ⟨rfl, below_drewN ((Below.refl _ _).alloc (Nat.le_refl _) _) _⟩
def grest (lo hi : Int) (n : Nat) (f : Nat → Int) (x : Nat) : Int := if rangeB lo hi && !anyBey n f && shB x then 0 else 3
theorem gfault_form {s : ByteArray} {kd lo hi : Int} {n : Nat} {f : Nat → Int} {x : Nat} (h : ¬ (nameB s = true ∧ many kd = (n : Int))) : gfault s kd lo hi n f x = 1 := by
  unfold gfault
  rw [if_neg]
  simpa using h
theorem gfault_rest {s : ByteArray} {kd lo hi : Int} {n : Nat} {f : Nat → Int} {x : Nat} (h1 : nameB s = true) (h2 : many kd = (n : Int)) : gfault s kd lo hi n f x = grest lo hi n f x := by
  unfold gfault
  rw [if_pos]
  · rfl
  · simp [h1, h2]
theorem restF {lo hi : Int} {n : Nat} {f : Nat → Int} {x : Nat} (h : rangeB lo hi = false) : grest lo hi n f x = 3 := by unfold grest; rw [h]; rfl
theorem restB {lo hi : Int} {n : Nat} {f : Nat → Int} {x : Nat} (h : anyBey n f = true) : grest lo hi n f x = 3 := by unfold grest; rw [h]; simp
theorem restS {lo hi : Int} {n : Nat} {f : Nat → Int} {x : Nat} (h : rangeB lo hi = true) (h2 : anyBey n f = false) : grest lo hi n f x = if shB x then 0 else 3 := by unfold grest; rw [h, h2]; simp
set_option maxHeartbeats 1600000 in
theorem sGF_rest (s : ByteArray) (kd lo hi : Int) (b off n cap : Nat) (f : Nat → Int) (x : Nat) (w : World) (h : nameB s = true) (hm : many kd = (n : Int)) (hn : n ≤ 1000000000000)
    (hc : ∀ i, i < n → w.cell? ⟨b, off + i, none⟩ = some (.int .i64 (f i))) :
    Calls Tryd.prog 11 #[.agg #[.string s, .int .i64 kd, .int .i64 lo, .int .i64 hi, .slice (some ⟨b, off, none⟩) n cap, .float .f64 x]] w fun e w' =>
      e = .returned (.int .i64 (grest lo hi n f x)) ∧ Below w.heap.size w w' := by
  have HS : Hid (∀ w, Calls Tryd.prog 39 #[.string s] w fun e w' => e = .returned (.bool true) ∧ w = w') := by rw [← h]; exact sName_any s
  have HM : Hid (∀ w, Calls Tryd.prog 40 #[.int .i64 kd] w fun e w' => e = .returned (.int .i64 n) ∧ w = w') := by rw [← hm]; exact sMany kd
  have HC : Hid (∀ i, i < n → w.cell? ⟨b, off + i, none⟩ = some (.int .i64 (f i))) := hc
  clear h hm hc
  by_cases r1 : lo < 1
  · rw [restF (by unfold rangeB; simp; omega)]
    go_enter Tryd.func11, Tryd.ntmps11
    go_wp2_with fail
    go_quiet (first | (go_at_call 39; exact quiet_eq (HS.out _)) | (go_at_call 40; exact quiet_eq (HM.out _)))
    go_wp2
    go_ret
    exact ⟨rfl, below_drewN ((Below.refl _ _).alloc (Nat.le_refl _) _) _⟩
  by_cases r2 : 100000 < hi
  · rw [restF (by unfold rangeB; simp; omega)]
    go_enter Tryd.func11, Tryd.ntmps11
    go_wp2_with fail
    go_quiet (first | (go_at_call 39; exact quiet_eq (HS.out _)) | (go_at_call 40; exact quiet_eq (HM.out _)))
    go_wp2
    go_ret
    exact ⟨rfl, below_drewN ((Below.refl _ _).alloc (Nat.le_refl _) _) _⟩
  by_cases r3 : hi < lo
  · rw [restF (by unfold rangeB; simp; omega)]
    go_enter Tryd.func11, Tryd.ntmps11
    go_wp2_with fail
    go_quiet (first | (go_at_call 39; exact quiet_eq (HS.out _)) | (go_at_call 40; exact quiet_eq (HM.out _)))
    go_wp2
    go_ret
    exact ⟨rfl, below_drewN ((Below.refl _ _).alloc (Nat.le_refl _) _) _⟩
  have HRB : Hid (rangeB lo hi = true) := (show rangeB lo hi = true by unfold rangeB; simp; omega)
  have HSH : Hid (∀ w, Calls Tryd.prog 41 #[.float .f64 x] w fun e w' => e = .returned (.bool (shB x)) ∧ w = w') := sShift x
  go_enter Tryd.func11, Tryd.ntmps11
  go_wp2_with fail
  go_quiet (first | (go_at_call 39; exact quiet_eq (HS.out _)) | (go_at_call 40; exact quiet_eq (HM.out _)))
  have HC2 : Hid (∀ i, i < n → ∀ o q, ((w.alloc o).drewN q).cell? ⟨b, off + i, none⟩ = some (.int .i64 (f i))) := fun i hi o q => by rw [World.cell?_drewN]; exact alloc_keeps (HC.out i hi)
  clear HC HS HM
  go_wp2_with fail
  go_loop [3] (fun i => ∃ k : Nat, k ≤ n ∧ i = .int .i64 k ∧ Hid (∀ j, j < k → beyB (f j) = false)) (fun i => n - (intOf i).toNat)
  case atStart => exact ⟨0, Nat.zero_le _, rfl, fun j hj => absurd hj (Nat.not_lt_zero _)⟩
  case round =>
    obtain ⟨k, hk, rfl, HA⟩ := hrel
    by_cases hlt : k < n
    · have g1 := HC2.out k hlt
      by_cases b1 : f k < -1000000000000
      · have HB : Hid (anyBey n f = true) := anyBey_some hlt (by unfold beyB; simp [b1])
        go_wp2
        go_ret
        exact ⟨ret_int (restB HB.out).symm, below_drewN ((Below.refl _ _).alloc (Nat.le_refl _) _) _⟩
      by_cases b2 : 1000000000000 < f k
      · have HB : Hid (anyBey n f = true) := anyBey_some hlt (by unfold beyB; simp [b2])
        go_wp2
        go_ret
        exact ⟨ret_int (restB HB.out).symm, below_drewN ((Below.refl _ _).alloc (Nat.le_refl _) _) _⟩
      have HB2 : Hid (beyB (f k) = false) := (show beyB (f k) = false by unfold beyB; simp; omega)
      go_wp2
      go_round
      case rel => exact ⟨k + 1, by omega, by go_num, fun j hj => by by_cases e : j = k; exact (by rw [e]; exact HB2.out); exact HA.out j (by omega)⟩
      case measure => simp [intOf]; omega
    · obtain rfl : k = n := by omega
      have HB : Hid (anyBey k f = false) := anyBey_all HA.out
      cases hsh : shB x
      · have HSH2 : Hid (∀ w, Calls Tryd.prog 41 #[.float .f64 x] w fun e w' => e = .returned (.bool false) ∧ w = w') := by rw [← hsh]; exact HSH.out
        have HX : Hid (shB x = false) := hsh
        clear HSH hsh
        go_wp2_with (go_at_call 41; refine (HSH2.out _).mono ?_; rintro e w' ⟨rfl, rfl⟩)
        go_ret
        exact ⟨ret_int (by rw [restS HRB.out HB.out, HX.out]; rfl), below_drewN ((Below.refl _ _).alloc (Nat.le_refl _) _) _⟩
      · have HSH2 : Hid (∀ w, Calls Tryd.prog 41 #[.float .f64 x] w fun e w' => e = .returned (.bool true) ∧ w = w') := by rw [← hsh]; exact HSH.out
        have HX : Hid (shB x = true) := hsh
        clear HSH hsh
        go_wp2_with (go_at_call 41; refine (HSH2.out _).mono ?_; rintro e w' ⟨rfl, rfl⟩)
        go_ret
        exact ⟨ret_int (by rw [restS HRB.out HB.out, HX.out]; rfl), below_drewN ((Below.refl _ _).alloc (Nat.le_refl _) _) _⟩
theorem many_ne_zero (kd : Int) : ¬ many kd = ((0 : Nat) : Int) := by unfold many; split <;> (try split) <;> simp
/-- The specification's GlassFault. -/
theorem sGF_any {s : ByteArray} {kd lo hi : Int} {v : Value} {n : Nat} {f : Nat → Int} {x : Nat} {w : World} (h : RdRow w v n f) (hn : n ≤ 1000000000000) :
    Calls Tryd.prog 11 #[.agg #[.string s, .int .i64 kd, .int .i64 lo, .int .i64 hi, v, .float .f64 x]] w fun e w' => e = .returned (.int .i64 (gfault s kd lo hi n f x)) ∧ Below w.heap.size w w' := by
  rcases h with ⟨ao, cap, rfl, rfl⟩ | ⟨b, off, cap, rfl, hc⟩
  · rw [gfault_form (fun e => many_ne_zero kd e.2)]
    cases hs : nameB s
    · exact sGF_name s kd lo hi ao 0 cap x w hs
    · exact sGF_many s kd lo hi ao 0 cap x w hs (many_ne_zero kd)
  · cases hs : nameB s
    · rw [gfault_form (fun e => by rw [hs] at e; cases e.1)]
      exact sGF_name s kd lo hi _ n cap x w hs
    · by_cases hm : many kd = (n : Int)
      · rw [gfault_rest hs hm]
        exact sGF_rest s kd lo hi b off n cap f x w hs hm hn hc
      · rw [gfault_form (fun e => hm e.2)]
        exact sGF_many s kd lo hi _ n cap x w hs hm
end Go.Proofs.YtndfncjoknibaaaDoor
