/- ParseFrac, text by text: the shapes put together. -/
import Derived.Test.YtkmbcbjholpfbaaParse
namespace Go.Proofs.Ytkmbcbjholpfbaa
open Go.RowKit
set_option linter.unusedVariables false
theorem fac_true (x : Int) : Tx.fac true * x = -x := by rw [show Tx.fac true = -1 from rfl]; omega
theorem fac_false (x : Int) : Tx.fac false * x = x := by rw [show Tx.fac false = 1 from rfl]; omega
theorem nod_nil : Tx.NoD [] := fun c t e => by cases e
theorem same_A (m : Bool) (r : List UInt8) (s : ByteArray) (hs : s.data.toList = Tx.sgn m ++ ([] ++ r)) (hr : Tx.NoD r) (h45 : m = true ∨ ∀ u, r ≠ 45 :: u) (h : s.size ≤ 4000) : Same s := by
  have hst : Tx.stuck 0 0 (Tx.sgn m ++ ([] ++ r)) = ((Tx.sgn m).length : Int) := by
    rw [stuck_sgn, List.nil_append]
    match r, hr, h45 with
    | [], _, _ => cases m <;> rfl
    | c :: t, hr, h45 => exact stuck_at _ _ c t (delta_stuck01 m c (hr c t rfl) (h45.imp id (fun k e => k t (by rw [e]))))
  have hl := Tx.sgn_len m
  refine same_stuck s _ hs h _ hst (by omega) (by omega) ?_
  cases m with
  | true => exact fun w => sp_A_true r s hs hr h w
  | false =>
    match r, hr, h45, hs with
    | [], _, _, hs => exact fun w => sp_A0_false s hs h w
    | c :: t, hr, h45, hs => exact fun w => sp_A1_false c t s hs hr (fun e => (h45.resolve_left (by simp)) t (by rw [e])) h w
theorem same_D (m : Bool) (ds : List UInt8) (c : UInt8) (r : List UInt8) (s : ByteArray) (hs : s.data.toList = Tx.sgn m ++ (ds ++ (c :: r))) (hd : Tx.AllD ds) (hne : ds ≠ []) (hr : Tx.NoD (c :: r)) (hc : c ≠ 46 ∧ c ≠ 47) (h : s.size ≤ 4000) : Same s := by
  have hsz := size_of hs
  simp only [List.length_append, List.length_cons] at hsz
  have hst : Tx.stuck 0 0 (Tx.sgn m ++ (ds ++ (c :: r))) = (((Tx.sgn m).length + ds.length : Nat) : Int) := by
    rw [stuck_sgn, Tx.stuck_head _ ds (c :: r) _ hd hne (q01 m)]
    exact stuck_at _ _ c r (delta_stuck2 c (hr c r rfl) hc.1 hc.2)
  refine same_stuck s _ hs h _ hst (by omega) (by omega) ?_
  cases m with
  | true => exact fun w => by have := sp_D_true ds c r s hs hd hne hr hc h w; simpa [Tx.sgn] using this
  | false => exact fun w => by have := sp_D_false ds c r s hs hd hne hr hc h w; simpa [Tx.sgn] using this
theorem stuck_mark (m : Bool) (ds : List UInt8) (c : UInt8) (r : List UInt8) (hd : Tx.AllD ds) (hne : ds ≠ []) (hc : c = 46 ∨ c = 47) : Tx.stuck 0 0 (Tx.sgn m ++ (ds ++ (c :: r))) = Tx.stuck 3 ((Tx.sgn m).length + ds.length + 1) r := by
  rw [stuck_sgn, Tx.stuck_head _ ds (c :: r) _ hd hne (q01 m), Tx.stuck_cons]
  have : Tx.delta 2 (c.toNat : Int) = 3 := by rcases hc with rfl | rfl <;> decide
  rw [this, if_neg (by omega)]
theorem same_C1 (m : Bool) (ds : List UInt8) (c : UInt8) (r : List UInt8) (s : ByteArray) (hs : s.data.toList = Tx.sgn m ++ (ds ++ (c :: r))) (hd : Tx.AllD ds) (hne : ds ≠ []) (hr : Tx.NoD r) (hc : c = 46 ∨ c = 47) (h : s.size ≤ 4000) : Same s := by
  have hsz := size_of hs
  simp only [List.length_append, List.length_cons] at hsz
  have hst : Tx.stuck 0 0 (Tx.sgn m ++ (ds ++ (c :: r))) = (((Tx.sgn m).length + ds.length + 1 : Nat) : Int) := by
    rw [stuck_mark m ds c r hd hne hc]
    match r, hr with
    | [], _ => rfl
    | x :: t, hr => exact stuck_at _ _ x t (delta_stuck3 3 x (hr x t rfl) (Or.inl rfl))
  refine same_stuck s _ hs h _ hst (by omega) (by omega) ?_
  rcases hc with rfl | rfl
  · cases m with
    | true => exact fun w => by have := sp_C1_46_true ds r s hs hd hne hr h w; simpa [Tx.sgn] using this
    | false => exact fun w => by have := sp_C1_46_false ds r s hs hd hne hr h w; simpa [Tx.sgn] using this
  · cases m with
    | true => exact fun w => by have := sp_C1_47_true ds r s hs hd hne hr h w; simpa [Tx.sgn] using this
    | false => exact fun w => by have := sp_C1_47_false ds r s hs hd hne hr h w; simpa [Tx.sgn] using this
theorem same_C2 (m : Bool) (ds es : List UInt8) (c x : UInt8) (r : List UInt8) (s : ByteArray) (hs : s.data.toList = Tx.sgn m ++ (ds ++ (c :: (es ++ (x :: r))))) (hd : Tx.AllD ds) (hne : ds ≠ []) (he : Tx.AllD es) (hne2 : es ≠ []) (hr : Tx.NoD (x :: r)) (hc : c = 46 ∨ c = 47) (h : s.size ≤ 4000) : Same s := by
  have hsz := size_of hs
  simp only [List.length_append, List.length_cons] at hsz
  have hst : Tx.stuck 0 0 (Tx.sgn m ++ (ds ++ (c :: (es ++ (x :: r))))) = (((Tx.sgn m).length + ds.length + 1 + es.length : Nat) : Int) := by
    rw [stuck_mark m ds c _ hd hne hc, Tx.stuck_tail es (x :: r) _ he hne2]
    exact stuck_at _ _ x r (delta_stuck3 4 x (hr x r rfl) (Or.inr rfl))
  refine same_stuck s _ hs h _ hst (by omega) (by omega) ?_
  rcases hc with rfl | rfl
  · cases m with
    | true => exact fun w => by have := sp_C2_46_true ds es x r s hs hd hne he hne2 hr h w; simpa [Tx.sgn] using this
    | false => exact fun w => by have := sp_C2_46_false ds es x r s hs hd hne he hne2 hr h w; simpa [Tx.sgn] using this
  · cases m with
    | true => exact fun w => by have := sp_C2_47_true ds es x r s hs hd hne he hne2 hr h w; simpa [Tx.sgn] using this
    | false => exact fun w => by have := sp_C2_47_false ds es x r s hs hd hne he hne2 hr h w; simpa [Tx.sgn] using this
theorem same_B (m : Bool) (ds : List UInt8) (s : ByteArray) (hs : s.data.toList = Tx.sgn m ++ (ds ++ [])) (hd : Tx.AllD ds) (hne : ds ≠ []) (h : s.size ≤ 4000) : Same s := by
  have hsz := size_of hs
  simp only [List.length_append, List.length_nil] at hsz
  have hst : Tx.stuck 0 0 (Tx.sgn m ++ (ds ++ [])) = -1 := by
    rw [stuck_sgn, Tx.stuck_head _ ds [] _ hd hne (q01 m)]
    rfl
  have R : Reads s m ds [] 0 0 := ⟨fun W => by have := stuck_any s _ hs h W; rwa [hst] at this, fun W => split_none m ds hd hne s hs (by omega) W⟩
  by_cases h18 : 18 < ds.length
  · refine ⟨3, 0, 0, 0, ?_, fun w => ip_range s m ds [] 0 0 R w h (fun W => ?_)⟩
    · cases m with
      | true => exact fun w => sp_B1_true ds s hs hd hne h18 h w
      | false => exact fun w => sp_B1_false ds s hs hd hne h18 h w
    · have := many_no m ds [] 0 0 W (by simp; omega) (by omega)
      rwa [decide_eq_true (show 18 < ds.length ∨ 18 < ([] : List UInt8).length from Or.inl h18)] at this
  · obtain ⟨b1, b2⟩ := Tx.num_le ds hd (by omega)
    obtain ⟨f1, f2⟩ := fac_bd m (Tx.num ds) b1 b2
    obtain ⟨e1, e2, e3, e4⟩ := mk_told (Tx.fac m * Tx.num ds) 1 f1 f2 (by omega) (by omega) (by omega)
    refine ⟨mkC (Tx.fac m * Tx.num ds) 1, 0, mkN (Tx.fac m * Tx.num ds) 1, mkD (Tx.fac m * Tx.num ds) 1, ?_, fun w => ip_told s m ds [] 0 0 R w h _ 1 (fun W => ?_) (fun W => ?_) (fun W => denOf_no m ds [] 0 W) e4⟩
    · rw [e1, e2, e3]
      cases m with
      | true => exact fun w => sp_B2_true ds s hs hd hne (by omega) h w
      | false => exact fun w => sp_B2_false ds s hs hd hne (by omega) h w
    · have := many_no m ds [] 0 0 W (by simp; omega) (by omega)
      rwa [decide_eq_false (show ¬ (18 < ds.length ∨ 18 < ([] : List UInt8).length) by simp; omega)] at this
    · cases m with
      | true => rw [fac_true]; exact numOf_no_true ds [] 0 0 W hd (by omega) (by omega)
      | false => rw [fac_false]; exact numOf_no_false ds [] 0 0 W hd (by omega) (by omega)
theorem reads_mark (m : Bool) (ds es : List UInt8) (c : UInt8) (s : ByteArray) (hs : s.data.toList = Tx.sgn m ++ (ds ++ (c :: (es ++ [])))) (hd : Tx.AllD ds) (hne : ds ≠ []) (he : Tx.AllD es) (hne2 : es ≠ []) (hc : c = 46 ∨ c = 47) (h : s.size ≤ 4000) :
    Reads s m ds es (c.toNat : Int) (((Tx.sgn m).length : Int) + (ds.length : Int)) := by
  have hst : Tx.stuck 0 0 (Tx.sgn m ++ (ds ++ (c :: (es ++ [])))) = -1 := by
    rw [stuck_mark m ds c _ hd hne hc, Tx.stuck_tail es [] _ he hne2]
    rfl
  have hsz := size_of hs
  simp only [List.length_append, List.length_cons, List.length_nil] at hsz
  exact ⟨fun W => by have := stuck_any s _ hs h W; rwa [hst] at this, fun W => split_mark m ds es c hd he hne hc s (by rw [hs, List.append_nil]) (by omega) W⟩
theorem same_dot (m : Bool) (ds es : List UInt8) (s : ByteArray) (hs : s.data.toList = Tx.sgn m ++ (ds ++ (46 :: (es ++ [])))) (hd : Tx.AllD ds) (hne : ds ≠ []) (he : Tx.AllD es) (hne2 : es ≠ []) (h : s.size ≤ 4000) : Same s := by
  have hsz := size_of hs
  simp only [List.length_append, List.length_cons, List.length_nil] at hsz
  have R := reads_mark m ds es 46 s hs hd hne he hne2 (Or.inl rfl) h
  by_cases h18 : 18 < ds.length + es.length
  · refine ⟨3, 0, 0, 0, ?_, fun w => ip_range s m ds es _ _ R w h (fun W => ?_)⟩
    · by_cases k1 : 18 < ds.length
      · cases m with
        | true => exact fun w => sp_C3a_46_true ds es s hs hd hne he hne2 k1 h w
        | false => exact fun w => sp_C3a_46_false ds es s hs hd hne he hne2 k1 h w
      · by_cases k2 : 18 < es.length
        · cases m with
          | true => exact fun w => sp_C3b_46_true ds es s hs hd hne he hne2 (by omega) k2 h w
          | false => exact fun w => sp_C3b_46_false ds es s hs hd hne he hne2 (by omega) k2 h w
        · cases m with
          | true => exact fun w => sp_C3c_46_true ds es s hs hd hne he hne2 (by omega) (by omega) h18 h w
          | false => exact fun w => sp_C3c_46_false ds es s hs hd hne he hne2 (by omega) (by omega) h18 h w
    · have := many_dot m ds es (((Tx.sgn m).length : Int) + (ds.length : Int)) ((46 : UInt8).toNat : Int) W (by omega) rfl
      rwa [decide_eq_true h18] at this
  · obtain ⟨b1, b2⟩ := Tx.num_le (ds ++ es) (allD_app hd he) (by simp; omega)
    obtain ⟨f1, f2⟩ := fac_bd m (Tx.num (ds ++ es)) b1 b2
    have p1 := Tx.pow_le es.length (by omega)
    have p2 := Tx.pow_pos es.length
    obtain ⟨e1, e2, e3, e4⟩ := mk_told (Tx.fac m * Tx.num (ds ++ es)) (10 ^ es.length) f1 f2 (by omega) (by omega) (by omega)
    refine ⟨mkC (Tx.fac m * Tx.num (ds ++ es)) (10 ^ es.length), 0, mkN (Tx.fac m * Tx.num (ds ++ es)) (10 ^ es.length), mkD (Tx.fac m * Tx.num (ds ++ es)) (10 ^ es.length), ?_, fun w => ip_told s m ds es _ _ R w h _ _ (fun W => ?_) (fun W => ?_) (fun W => denOf_dot m ds es _ _ W (by omega) rfl) e4⟩
    · rw [e1, e2, e3]
      cases m with
      | true => exact fun w => sp_C3d_46_true ds es s hs hd hne he hne2 (by omega) h w
      | false => exact fun w => sp_C3d_46_false ds es s hs hd hne he hne2 (by omega) h w
    · have := many_dot m ds es (((Tx.sgn m).length : Int) + (ds.length : Int)) ((46 : UInt8).toNat : Int) W (by omega) rfl
      rwa [decide_eq_false h18] at this
    · cases m with
      | true => rw [fac_true]; exact numOf_dot_true ds es _ _ W hd he (by omega) rfl
      | false => rw [fac_false]; exact numOf_dot_false ds es _ _ W hd he (by omega) rfl
theorem same_bar (m : Bool) (ds es : List UInt8) (s : ByteArray) (hs : s.data.toList = Tx.sgn m ++ (ds ++ (47 :: (es ++ [])))) (hd : Tx.AllD ds) (hne : ds ≠ []) (he : Tx.AllD es) (hne2 : es ≠ []) (h : s.size ≤ 4000) : Same s := by
  have hsz := size_of hs
  simp only [List.length_append, List.length_cons, List.length_nil] at hsz
  have R := reads_mark m ds es 47 s hs hd hne he hne2 (Or.inr rfl) h
  by_cases h18 : 18 < ds.length ∨ 18 < es.length
  · refine ⟨3, 0, 0, 0, ?_, fun w => ip_range s m ds es _ _ R w h (fun W => ?_)⟩
    · by_cases k1 : 18 < ds.length
      · cases m with
        | true => exact fun w => sp_C3a_47_true ds es s hs hd hne he hne2 k1 h w
        | false => exact fun w => sp_C3a_47_false ds es s hs hd hne he hne2 k1 h w
      · cases m with
        | true => exact fun w => sp_C3b_47_true ds es s hs hd hne he hne2 (by omega) (by omega) h w
        | false => exact fun w => sp_C3b_47_false ds es s hs hd hne he hne2 (by omega) (by omega) h w
    · have := many_no m ds es (((Tx.sgn m).length : Int) + (ds.length : Int)) ((47 : UInt8).toNat : Int) W (by omega) (by decide)
      rwa [decide_eq_true h18] at this
  · obtain ⟨b1, b2⟩ := Tx.num_le ds hd (by omega)
    obtain ⟨b3, b4⟩ := Tx.num_le es he (by omega)
    obtain ⟨f1, f2⟩ := fac_bd m (Tx.num ds) b1 b2
    have HM : Hid (∀ W, Calls Try.prog 48 #[.agg #[.bool m, .string ⟨ds.toArray⟩, .int .u8 ((47 : UInt8).toNat : Int), .int .i64 (((Tx.sgn m).length : Int) + (ds.length : Int)), .string ⟨es.toArray⟩]] W fun e w' => e = .returned (.bool false) ∧ Below W.heap.size W w') := fun W => by
      have := many_no m ds es (((Tx.sgn m).length : Int) + (ds.length : Int)) ((47 : UInt8).toNat : Int) W (by omega) (by decide)
      rwa [decide_eq_false h18] at this
    have HN : Hid (∀ W, Calls Try.prog 49 #[.agg #[.bool m, .string ⟨ds.toArray⟩, .int .u8 ((47 : UInt8).toNat : Int), .int .i64 (((Tx.sgn m).length : Int) + (ds.length : Int)), .string ⟨es.toArray⟩]] W fun e w' => e = .returned (.int .i64 (Tx.fac m * Tx.num ds)) ∧ Below W.heap.size W w') := fun W => by
      cases m with
      | true => rw [fac_true]; exact numOf_no_true ds es _ _ W hd (by omega) (by decide)
      | false => rw [fac_false]; exact numOf_no_false ds es _ _ W hd (by omega) (by decide)
    by_cases hz : Tx.num es = 0
    · obtain ⟨z1, z2, z3⟩ := mk_zero (n := Tx.fac m * Tx.num ds) (d := Tx.num es) (by omega) hz
      refine ⟨6, ((Tx.sgn m).length : Int) + (ds.length : Int), 0, 0, ?_, fun w => ip_zero s m ds es _ _ R w h _ _ HM HN (fun W => denOf_bar m ds es _ _ W he (by omega) rfl) (by rw [z1]; rfl)⟩
      cases m with
      | true => exact fun w => by have := sp_C3z_47_true ds es s hs hd hne he hne2 (by omega) (by omega) hz h w; simpa [Tx.sgn] using this
      | false => exact fun w => by have := sp_C3z_47_false ds es s hs hd hne he hne2 (by omega) (by omega) hz h w; simpa [Tx.sgn] using this
    · obtain ⟨e1, e2, e3, e4⟩ := mk_told (Tx.fac m * Tx.num ds) (Tx.num es) f1 f2 (by omega) (by omega) hz
      refine ⟨mkC (Tx.fac m * Tx.num ds) (Tx.num es), 0, mkN (Tx.fac m * Tx.num ds) (Tx.num es), mkD (Tx.fac m * Tx.num ds) (Tx.num es), ?_, fun w => ip_told s m ds es _ _ R w h _ _ HM HN (fun W => denOf_bar m ds es _ _ W he (by omega) rfl) e4⟩
      rw [e1, e2, e3]
      cases m with
      | true => exact fun w => sp_C3d_47_true ds es s hs hd hne he hne2 (by omega) (by omega) hz h w
      | false => exact fun w => sp_C3d_47_false ds es s hs hd hne he hne2 (by omega) (by omega) hz h w
/-- Behind the minus, or where there is none. -/
theorem same_rest (m : Bool) (x : List UInt8) (s : ByteArray) (hs : s.data.toList = Tx.sgn m ++ x) (h45 : m = true ∨ ∀ u, x ≠ 45 :: u) (h : s.size ≤ 4000) : Same s := by
  obtain ⟨ds, r, rfl, hd, hr⟩ := Tx.split x
  by_cases hne : ds = []
  · subst hne; exact same_A m r s hs hr (by simpa using h45) h
  match r, hr, hs with
  | [], _, hs => exact same_B m ds s hs hd hne h
  | c :: r, hr, hs =>
    by_cases hc : c = 46 ∨ c = 47
    · obtain ⟨es, r2, rfl, he, hr2⟩ := Tx.split r
      by_cases hne2 : es = []
      · subst hne2; exact same_C1 m ds c r2 s hs hd hne hr2 hc h
      · match r2, hr2, hs with
        | x :: t, hr2, hs => exact same_C2 m ds es c x t s hs hd hne he hne2 hr2 hc h
        | [], _, hs =>
          rcases hc with rfl | rfl
          · exact same_dot m ds es s hs hd hne he hne2 h
          · exact same_bar m ds es s hs hd hne he hne2 h
    · exact same_D m ds c r s hs hd hne hr (by constructor <;> (intro e; exact hc (by simp [e]))) h
theorem same_all (s : ByteArray) (h : s.size ≤ 1048576) : Same s := by
  by_cases hm : 4000 < s.size
  · exact ⟨2, 0, 0, 0, fun w => many_size s w hm h, fun w => ip_many s w hm h⟩
  · have h4 : s.size ≤ 4000 := by omega
    match hl : s.data.toList with
    | [] => exact same_rest false [] s (by rw [hl]; rfl) (Or.inr (fun u e => by cases e)) h4
    | c :: t =>
      by_cases hc : c = 45
      · subst hc; exact same_rest true t s (by rw [hl]; rfl) (Or.inl rfl) h4
      · exact same_rest false (c :: t) s (by rw [hl]; rfl) (Or.inr (fun u e => by cases e; exact hc rfl)) h4
end Go.Proofs.Ytkmbcbjholpfbaa
