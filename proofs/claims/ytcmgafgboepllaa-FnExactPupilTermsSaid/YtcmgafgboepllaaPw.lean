/- Powers and terms on the pupil: both packages. -/
import Derived.Test.YtcmgafgboepllaaOw
import Derived.Test.YtcmgafgboepllaaDots
namespace Go.Proofs.Ytcmgafgboepllaa
open Go.RowKit Fl
set_option linter.unusedVariables false
set_option linter.unusedSimpArgs false
def powC (o : Option Nat) : Nat → Option Nat
  | 0 => oneO
  | k + 1 => opC .mul (powC o k) o
theorem cells1 (w : World) (v : Value) (t : TypeId) : Below w.heap.size w (w.alloc (.cells #[v] t)) := (Below.refl _ _).alloc (Nat.le_refl _) _
set_option maxHeartbeats 800000 in
theorem sPow_any {x : Nat} {o : Option Nat} (hx : Fc x o) (n : Nat) (hn : n ≤ 1000) (w : World) : FV 69 #[.float .f64 x, .int .i64 n] w (powC o n) := by
  unfold FV
  have HX : Hid (Fc x o) := hx
  clear hx
  have hmul := mul_run
  go_enter Try.func69, Try.ntmps69
  go_wp2_with fail
  go_loopw [5, 1] (fun s i wr => ∃ k y : Nat, k ≤ n ∧ i = .int .i64 ((n - k : Nat) : Int) ∧ s = .float .f64 y ∧ Hid (Fc y (powC o k)) ∧ Hid (Below w.heap.size w wr)) (fun _ i _ => (intOf i).toNat)
  case atStart => exact ⟨0, 4607182418800017408, Nat.zero_le _, by simp, rfl, fc_one, Below.refl _ _⟩
  case round =>
    obtain ⟨k, y, hk, rfl, rfl, HY, HB⟩ := hrel
    obtain ⟨m, hm⟩ : ∃ m : Nat, m = n - k := ⟨_, rfl⟩
    rw [← hm]
    by_cases h0 : 0 < m
    · have h0I : (0 : Int) < m := by omega
      have hmI : (m : Int) ≤ 1000 := by omega
      go_wp2
      go_roundw
      case rel => exact ⟨k + 1, _, by omega, by congr 1; omega, rfl, fc_op .mul HY.out HX.out wr, below_opW HB.out⟩
      case measure => simp [intOf]; omega
    · obtain rfl : k = n := by omega
      have h0I : ¬ (0 : Int) < m := by omega
      clear hm hk hn h0
      go_wp2
      go_ret
      exact ⟨y, rfl, HY.out, HB.out⟩
set_option maxHeartbeats 800000 in
theorem iPow_any {x : Nat} {o : Option Nat} (hx : Fc x o) (n : Nat) (hn : n ≤ 1000) (w : World) : FV 72 #[.float .f64 x, .int .i64 n] w (powC o n) := by
  unfold FV
  have HX : Hid (Fc x o) := hx
  clear hx
  have hmul := mul_run
  go_enter Try.func72, Try.ntmps72
  go_wp2_with fail
  go_loopw [5, 7] (fun s i wr => ∃ k y : Nat, k ≤ n ∧ i = .int .i64 (k : Int) ∧ s = .float .f64 y ∧ Hid (Fc y (powC o k)) ∧ Hid (Below w.heap.size w wr)) (fun _ i _ => n - (intOf i).toNat)
  case atStart => exact ⟨0, 4607182418800017408, Nat.zero_le _, by simp, rfl, fc_one, Below.refl _ _⟩
  case round =>
    obtain ⟨k, y, hk, rfl, rfl, HY, HB⟩ := hrel
    by_cases h0 : k < n
    · have h0I : (k : Int) < n := by omega
      go_wp2
      go_roundw
      case rel => exact ⟨k + 1, _, by omega, by simp, rfl, fc_op .mul HY.out HX.out wr, below_opW HB.out⟩
      case measure => simp [intOf]; omega
    · obtain rfl : k = n := by omega
      go_wp2
      go_ret
      exact ⟨y, rfl, HY.out, HB.out⟩
/-! ### the terms, plainly -/
def rowC (X Y : Option Nat) (d : Nat) : Nat → List (Option Nat)
  | 0 => []
  | k + 1 => rowC X Y d k ++ [opC .mul (powC X (d - k)) (powC Y k)]
def allC (X Y : Option Nat) : Nat → List (Option Nat)
  | 0 => []
  | d + 1 => allC X Y d ++ rowC X Y d (d + 1)
theorem rowC_len (X Y : Option Nat) (d : Nat) : ∀ k, (rowC X Y d k).length = k
  | 0 => rfl
  | k + 1 => by simp [rowC, rowC_len X Y d k]
def trm : Nat → Nat
  | 0 => 0
  | d + 1 => trm d + (d + 1)
theorem allC_len (X Y : Option Nat) : ∀ d, (allC X Y d).length = trm d
  | 0 => rfl
  | d + 1 => by simp [allC, allC_len X Y d, rowC_len, trm]
theorem trm_le {d : Nat} (h : d ≤ 6) : trm d ≤ 21 := by
  match d, h with
  | 0, _ => decide
  | 1, _ => decide
  | 2, _ => decide
  | 3, _ => decide
  | 4, _ => decide
  | 5, _ => decide
  | 6, _ => decide
/-- Floats of these classes, one by one. -/
structure Fcs (ts : List Nat) (cs : List (Option Nat)) : Prop where
  len : ts.length = cs.length
  at' : ∀ (i x : Nat) (o : Option Nat), ts[i]? = some x → cs[i]? = some o → Fc x o
theorem Fcs.nil : Fcs [] [] := ⟨rfl, fun i x o h => by simp at h⟩
theorem Fcs.push {ts : List Nat} {cs : List (Option Nat)} (h : Fcs ts cs) {x : Nat} {o : Option Nat} (k : Fc x o) : Fcs (ts ++ [x]) (cs ++ [o]) := by
  refine ⟨by simp [h.len], fun i y p hy hp => ?_⟩
  by_cases e : i < ts.length
  · rw [List.getElem?_append_left e] at hy
    rw [List.getElem?_append_left (by rw [← h.len]; exact e)] at hp
    exact h.at' i y p hy hp
  · rw [List.getElem?_append_right (by omega)] at hy
    rw [List.getElem?_append_right (by rw [← h.len]; omega), ← h.len] at hp
    by_cases e2 : i - ts.length = 0
    · rw [e2] at hy hp
      simp at hy hp
      subst hy hp
      exact k
    · obtain ⟨m, hm⟩ : ∃ m, i - ts.length = m + 1 := ⟨i - ts.length - 1, by omega⟩
      rw [hm] at hy
      simp at hy
/-- What the loops have built. -/
structure PS (w0 wr : World) (v : Value) (cs : List (Option Nat)) : Prop where
  h : ∃ ts : List Nat, Fcs ts cs ∧ wr.ownsRow w0.heap.size 24 1 v ts.length (ts.map (Value.float .f64))
  b : Below w0.heap.size w0 wr
/-- What is answered: a list of floats of these classes in memory of its own, or nil. -/
def TV (fn : FuncId) (args : Array Value) (w : World) (cs : List (Option Nat)) : Prop :=
  Calls Try.prog fn args w fun e w' => ∃ (v : Value) (f : Nat → Nat), e = .returned v ∧ OwS 24 w.heap.size w'.heap.size w' v cs.length (fun i => .float .f64 (f i)) ∧ (∀ i, i < cs.length → Fc (f i) (cs.getD i none)) ∧ Below w.heap.size w w'
theorem PS.out {w0 wr : World} {v : Value} {cs : List (Option Nat)} (h : PS w0 wr v cs) : ∃ (f : Nat → Nat), OwS 24 w0.heap.size wr.heap.size wr v cs.length (fun i => .float .f64 (f i)) ∧ (∀ i, i < cs.length → Fc (f i) (cs.getD i none)) := by
  obtain ⟨ts, h1, h2⟩ := h.h
  refine ⟨fun i => ts.getD i 0, ?_, fun i hi => ?_⟩
  · rw [← h1.len]
    refine owned_seg h2 fun i hi => ?_
    simp [List.getElem?_eq_getElem hi]
  · have hi2 : i < ts.length := by rw [h1.len]; exact hi
    refine h1.at' i _ _ ?_ ?_
    · simp [List.getElem?_eq_getElem hi2]
    · simp [List.getElem?_eq_getElem hi]
def degC (X Y : Option Nat) (d : Int) : List (Option Nat) := if d < 0 ∨ 5 < d then [] else allC X Y (d.toNat + 1)
/-- The same, over numbers and classes. -/
def LV (fn : FuncId) (args : Array Value) (w : World) (n : Nat) (o : Nat → Option Nat) : Prop :=
  Calls Try.prog fn args w fun e w' => ∃ (v : Value) (f : Nat → Nat), e = .returned v ∧ OwS 24 w.heap.size w'.heap.size w' v n (fun i => .float .f64 (f i)) ∧ (∀ i, i < n → Fc (f i) (o i)) ∧ Below w.heap.size w w'
theorem degC_len (X Y : Option Nat) (d : Int) : (degC X Y d).length ≤ 21 := by
  unfold degC
  split
  · simp
  · rw [allC_len]
    exact trm_le (by omega)
theorem tv_nil {w : World} : OwS 24 w.heap.size w.heap.size w (.slice none 0 0) ([] : List (Option Nat)).length (fun i => .float .f64 ((fun _ => 0) i)) := Or.inl ⟨rfl, rfl⟩
theorem owns_e1 (w : World) : (w.alloc (.cells #[] 24)).ownsRow w.heap.size 24 1 (.slice (some ⟨w.heap.size, 0, none⟩) 0 0) 0 [] := owns_empty w 24 1
set_option maxRecDepth 20000 in
set_option maxHeartbeats 3200000 in
theorem sTerms_none {x y : Nat} (d : Int) (hd : d < 0 ∨ 5 < d) (w : World) : Calls Try.prog 28 #[.int .i64 d, .float .f64 x, .float .f64 y] w fun e w' => e = .returned (.slice none 0 0) ∧ w = w' := by
  go_enter Try.func28, Try.ntmps28
  by_cases h0 : d < 0
  · go_wp2
    go_ret
    exact ⟨rfl, rfl⟩
  · have h5 : 5 < d := by omega
    go_wp2
    go_ret
    exact ⟨rfl, rfl⟩
set_option maxRecDepth 20000 in
set_option maxHeartbeats 6400000 in
theorem sTerms_some {x y : Nat} {X Y : Option Nat} (hx : Fc x X) (hy : Fc y Y) (D : Nat) (hD : D ≤ 5) (w : World) : Calls Try.prog 28 #[.int .i64 D, .float .f64 x, .float .f64 y] w fun e w' => ∃ v, e = .returned v ∧ PS w w' v (allC X Y (D + 1)) := by
  have HX : Hid (Fc x X ∧ Fc y Y) := ⟨hx, hy⟩
  clear hx hy
  have hDI : (D : Int) ≤ 5 := by omega
  go_enter Try.func28, Try.ntmps28
  go_wp2_with fail
  go_loopw [7, 8] (fun s i wr => ∃ d : Nat, d ≤ D + 1 ∧ i = .int .i64 (d : Int) ∧ Hid (PS w wr s (allC X Y d))) (fun _ i _ => D + 1 - (intOf i).toNat)
  case atStart => exact ⟨0, Nat.zero_le _, rfl, ⟨[], Fcs.nil, owns_e1 w⟩, (Below.refl _ _).alloc (Nat.le_refl _) _⟩
  case round =>
    
    obtain ⟨d, hd, rfl, HP⟩ := hrel
    by_cases hdD : d ≤ D
    · have hdI : (d : Int) ≤ D := by omega
      
      go_wp2_with fail
      go_loopw [7, 9] (fun s i wx => ∃ k : Nat, k ≤ d + 1 ∧ i = .int .i64 (k : Int) ∧ Hid (PS w wx s (allC X Y d ++ rowC X Y d k))) (fun _ i _ => d + 1 - (intOf i).toNat)
      case atStart => exact ⟨0, Nat.zero_le _, rfl, by rw [show rowC X Y d 0 = [] from rfl, List.append_nil]; exact HP⟩
      case round =>
        clear HP
        obtain ⟨k, hk, rfl, HP⟩ := hrel
        by_cases hkd : k ≤ d
        · have hkI : (k : Int) ≤ d := by omega
          
          have hcv : ((d : Int) - k) = ((d - k : Nat) : Int) := by omega
          have hd0 : (d : Int) ≤ 5 := by omega
          go_wp2_with fail
          try rw [hcv]
          refine (sPow_any HX.out.1 (d - k) (by omega) _).mono ?_
          rintro e w1 ⟨p1, rfl, f1, b1⟩
          have HP1 : Hid (Fc p1 (powC X (d - k)) ∧ Below wr.heap.size wr w1) := ⟨f1, b1⟩
          clear f1 b1
          go_wp2_with fail
          refine (sPow_any HX.out.2 k (by omega) _).mono ?_
          rintro e w2 ⟨p2, rfl, f2, b2⟩
          obtain ⟨p3, q3, r3, f3⟩ := flop .mul (by simp) HP1.out.1 f2 w2
          obtain ⟨w3, hw3⟩ : ∃ W, W = w2.drewN q3 := ⟨_, rfl⟩
          rw [← hw3] at r3
          obtain ⟨ts, t1, t2⟩ := HP.out.h
          have B3 : Below wr.heap.size wr w3 := by rw [hw3]; exact below_drewN (HP1.out.2.trans (b2.mono HP1.out.2.size)) q3
          have O3 : Hid (w3.ownsRow w.heap.size 24 1 u7 ts.length (ts.map (Value.float .f64))) := owns_later t2 B3
          have Z3 : w.heap.size ≤ w3.heap.size := Nat.le_trans HP.out.b.size B3.size
          have L3 : ts.length ≤ 100 := by
            have e := t1.len
            rw [List.length_append, allC_len, rowC_len] at e
            have := trm_le (d := d) (by omega)
            omega
          have HQ : Hid (Fcs (ts ++ [p3]) (allC X Y d ++ rowC X Y d (k + 1)) ∧ Below w.heap.size w w3) := ⟨by rw [rowC, ← List.append_assoc]; exact t1.push f3, HP.out.b.trans (B3.mono HP.out.b.size)⟩
          clear hw3 f3 f2 b2 t1 t2 B3 HP HP1
          go_wp2_with (first | (at_builtin; refine push_law rfl (.tmp 27) (.tmp 37) 34 rfl 24 (.float .f64 0) 1 8 Try.underlying34 info24 rfl (by decide) (by decide) w3 [.float .f64 p3] rfl (by simp [Value.oneCell']) w.heap.size u7 ts.length _ rfl O3.out 1 rfl (by omega) Z3 ?_; intro v1 w4 own4 grow4 nn4))
          have HN : Hid (PS w w4 v1 (allC X Y d ++ rowC X Y d (k + 1))) := ⟨⟨ts ++ [p3], HQ.out.1, by rw [List.length_append, List.map_append]; exact own4⟩, push_below O3.out grow4 HQ.out.2 Z3⟩
          clear own4 grow4 nn4 O3 HQ Z3 L3
          go_wp2
          exact ⟨⟨k + 1, by omega, by simp, HN⟩, by simp [intOf]; omega⟩
        · obtain rfl : k = d + 1 := by omega
          have HN : Hid (PS w wr u7 (allC X Y (d + 1))) := HP
          clear HP
          
          go_wp2
          exact ⟨⟨d + 1, by omega, by simp, HN⟩, by simp [intOf]; omega⟩
    · obtain rfl : d = D + 1 := by omega
      go_wp2
      go_ret
      exact ⟨_, rfl, HP.out⟩
theorem sTerms_any {x y : Nat} {X Y : Option Nat} (hx : Fc x X) (hy : Fc y Y) (d : Int) (w : World) : TV 28 #[.int .i64 d, .float .f64 x, .float .f64 y] w (degC X Y d) := by
  unfold TV degC
  by_cases h : d < 0 ∨ 5 < d
  · rw [if_pos h]
    refine (sTerms_none d h w).mono ?_
    rintro e w1 ⟨rfl, rfl⟩
    exact ⟨_, fun _ => 0, rfl, tv_nil, fun i hi => absurd hi (Nat.not_lt_zero _), Below.refl _ _⟩
  · rw [if_neg h]
    obtain ⟨D, rfl⟩ := Int.eq_ofNat_of_zero_le (show 0 ≤ d by omega)
    refine (sTerms_some hx hy D (by omega) w).mono ?_
    rintro e w1 ⟨v, rfl, hp⟩
    obtain ⟨f, h1, h2⟩ := hp.out
    exact ⟨v, f, rfl, h1, h2, hp.b⟩
end Go.Proofs.Ytcmgafgboepllaa
