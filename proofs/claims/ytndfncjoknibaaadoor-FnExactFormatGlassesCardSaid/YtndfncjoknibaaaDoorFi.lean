/- The program's FormatGlasses: its contract. -/
import Derived.Test.YtndfncjoknibaaaDoorFs
namespace Go.Proofs.YtndfncjoknibaaaDoor
open Go.RowKit Fl
set_option linter.unusedVariables false
def nameIn (G : Nat → Gl) (m : Nat) (s : ByteArray) : Bool := (List.range m).any fun j => (G j).s.toList == s.toList
theorem nameIn_f {G : Nat → Gl} {m : Nat} {s : ByteArray} (h : ∀ j, j < m → ¬ (G j).s = s) : nameIn G m s = false := by
  unfold nameIn
  rw [List.any_eq_false]
  intro j hj
  rw [bytes_ne _ _ (h j (List.mem_range.1 hj))]
  simp
theorem nameIn_t {G : Nat → Gl} {m : Nat} {s : ByteArray} {j : Nat} (hj : j < m) (h : (G j).s = s) : nameIn G m s = true := by
  unfold nameIn
  rw [List.any_eq_true]
  exact ⟨j, List.mem_range.2 hj, (bytes_eq _ _).2 h⟩
/-- What is wrong with a glass behind m others. -/
def nfC (G : Nat → Gl) (m : Nat) (g : Gl) : Int := if gf g = 0 then (if nameIn G m g.s then 1 else if 100 ≤ m then 2 else 0) else gf g
theorem nf_zero {G : Nat → Gl} {m : Nat} {g : Gl} (h : nfC G m g = 0) : gf g = 0 ∧ nameIn G m g.s = false ∧ m < 100 := by
  unfold nfC at h
  by_cases h1 : gf g = 0
  · rw [if_pos h1] at h
    cases h2 : nameIn G m g.s
    · rw [h2] at h
      by_cases h3 : 100 ≤ m
      · rw [if_neg (by simp), if_pos h3] at h; exact absurd h (by decide)
      · exact ⟨h1, rfl, by omega⟩
    · rw [h2, if_pos rfl] at h; exact absurd h (by decide)
  · rw [if_neg h1] at h; exact absurd h h1
theorem nf_ok {G : Nat → Gl} {m : Nat} {g : Gl} (h1 : gf g = 0) (h2 : nameIn G m g.s = false) (h3 : m < 100) : nfC G m g = 0 := by
  unfold nfC
  rw [if_pos h1, h2, if_neg (by simp), if_neg (by omega)]
set_option maxHeartbeats 1600000 in
theorem nf_any {w : World} {ao : Option Addr} {m cap : Nat} {G : Nat → Gl} {g : Gl} {k : Value} (h : RdG w (.slice ao m cap) m G) (hm : m ≤ 1000000000) (T : Tab w) (hr : RdRow w k g.n g.f) :
    Calls Tryd.prog 62 #[.slice ao m cap, .agg #[.string g.s, .int .i64 g.kd, .int .i64 g.lo, .int .i64 g.hi, k, .float .f64 g.x]] w fun e w' => e = .returned (.int .i64 (nfC G m g)) ∧ Below w.heap.size w w' := by
  obtain ⟨ko, kc, rfl⟩ := hr.shape
  have H : Hid (RdG w (.slice ao m cap) m G ∧ Tab w ∧ RdRow w (.slice ko g.n kc) g.n g.f) := ⟨h, T, hr⟩
  clear h T hr
  go_enter Tryd.func62, Tryd.ntmps62
  obtain ⟨X, hX⟩ : ∃ X, X = w.alloc (.cells #[.string g.s, .int .i64 g.kd, .int .i64 g.lo, .int .i64 g.hi, .slice ko g.n kc, .float .f64 g.x] 28) := ⟨_, rfl⟩
  have HX : Hid (Below w.heap.size w X ∧ Six X w.heap.size (.string g.s) (.int .i64 g.kd) (.int .i64 g.lo) (.int .i64 g.hi) (.slice ko g.n kc) (.float .f64 g.x)) := by
    rw [hX]; exact ⟨(Below.refl _ _).alloc (Nat.le_refl _) _, six_new _ _ _ _ _ _ _ _⟩
  go_wp2_with fail
  rw [← hX]
  clear hX
  refine (iGF_any (H.out.2.2.later HX.out.1) (H.out.2.1.later HX.out.1)).mono ?_
  rintro e w1 ⟨rfl, b1⟩
  have A1 : Hid (Below w.heap.size w w1 ∧ Below X.heap.size X w1) := ⟨HX.out.1.trans (b1.mono HX.out.1.size), b1⟩
  clear b1
  generalize hcode : gfault g.s g.kd g.lo g.hi g.n g.f g.x = code
  have HG : Hid (gf g = code) := hcode
  clear hcode
  by_cases hz : code = 0
  · subst hz
    have c0 := (HX.out.2.later A1.out.2).c0
    go_wp2_with fail
    refine (iFind_any (H.out.1.later A1.out.1) (by omega) g.s).mono ?_
    rintro e w2 ⟨r, rfl, hf, b2⟩
    have HB : Hid (Below w.heap.size w w2) := box_step A1.out.1 b2 (Nat.le_refl _)
    have HF : Hid (Found G g.s m r) := hf
    clear b2 hf c0
    by_cases hr0 : 0 ≤ r
    · have HE : Hid (nfC G m g = 1) := (show nfC G m g = 1 by
        rcases HF.out.ex with ⟨e, _⟩ | ⟨i, hi, _, hs, _⟩
        · omega
        · unfold nfC; rw [if_pos HG.out, nameIn_t hi hs, if_pos rfl])
      go_wp2
      go_ret
      exact ⟨ret_int HE.out.symm, HB.out⟩
    · have hN : nameIn G m g.s = false := by
        rcases HF.out.ex with ⟨_, h1⟩ | ⟨i, hi, e, _, _⟩
        · exact nameIn_f h1
        · omega
      by_cases h100 : 100 ≤ m
      · have HE : Hid (nfC G m g = 2) := (show nfC G m g = 2 by unfold nfC; rw [if_pos HG.out, hN, if_neg (by simp), if_pos h100])
        have h100' : (100 : Int) ≤ m := by omega
        clear hN
        go_wp2
        go_ret
        exact ⟨ret_int HE.out.symm, HB.out⟩
      · have HE : Hid (nfC G m g = 0) := nf_ok HG.out hN (by omega)
        have h100' : ¬ (100 : Int) ≤ m := by omega
        clear hN
        go_wp2
        go_ret
        exact ⟨ret_int HE.out.symm, HB.out⟩
  · have HE : Hid (nfC G m g = code) := (show nfC G m g = code by unfold nfC; rw [HG.out, if_neg hz])
    go_wp2
    go_ret
    exact ⟨ret_int HE.out.symm, A1.out.1⟩
theorem line_size {g : Gl} (h : Right g) : (lineB g).size ≤ 401 := by
  have h1 := h.joined
  have h2 : (⟨#[10]⟩ : ByteArray).size = 1 := rfl
  unfold lineB
  rw [ByteArray.size_append, h2]
  show (Lib.join _ _).toArray.size + 1 ≤ 401
  rw [List.size_toArray]
  omega
theorem good_nf {G : Nat → Gl} {k : Nat} (h : Good G k) (hk : k < 100) : nfC G k (G k) = 0 := nf_ok h.1 (nameIn_f h.2.2) hk
theorem nf_good {G : Nat → Gl} {k : Nat} (h : nfC G k (G k) = 0) (hz : zeroSh (G k).x) : Good G k := by
  obtain ⟨h1, h2, _⟩ := nf_zero h
  refine ⟨h1, hz, fun j hj e => ?_⟩
  rw [nameIn_t hj e] at h2
  cases h2
set_option maxHeartbeats 6400000 in
set_option maxRecDepth 10000 in
theorem iFmt_some (b off n cap : Nat) (G : Nat → Gl) (w : World) (hn : n ≤ 1000000000) (hcap : n ≤ cap) (T : WTab w)
    (hc : ∀ i, i < n → ∃ k, SixAt w b (off + i * 6) (G i) k ∧ RdRow w k (G i).n (G i).f) :
    Calls Tryd.prog 36 #[.slice (some ⟨b, off, none⟩) n cap] w fun e w' => ∃ t, e = .returned (.string t) ∧ Fm G n t ∧ Below w.heap.size w w' := by
  have HC : Hid (∀ i, i < n → ∃ k, SixAt w b (off + i * 6) (G i) k ∧ RdRow w k (G i).n (G i).f) := hc
  have HL : Hid (∀ W k, Below w.heap.size w W → k ≤ n → RdG W (.slice (some ⟨b, off, none⟩) k cap) k G) := fun W k h hk => RdG.later (Or.inr ⟨b, off, cap, rfl, fun i hi => hc i (by omega)⟩) h
  have HT : Hid (∀ W, Below w.heap.size w W → WTab W) := fun W h => T.later h
  clear hc T
  have hst := st64
  by_cases hbig : 100 < n
  · have hbig' : (100 : Int) < n := by omega
    go_enter Tryd.func36, Tryd.ntmps36
    go_wp2
    go_ret
    exact ⟨_, rfl, Or.inr ⟨fun a => by have := a.1; omega, rfl⟩, Below.refl _ _⟩
  have hbig' : ¬ (100 : Int) < n := by omega
  go_enter Tryd.func36, Tryd.ntmps36
  go_wp2_with fail
  go_loopw [3, 11] (fun s i wr => ∃ (k : Nat) (o : ByteArray), k ≤ n ∧ i = .int .i64 k ∧ s = .string o ∧ Hid (o = textB G k ∧ (∀ i, i < k → Good G i)) ∧ o.size ≤ 401 * k ∧ Below w.heap.size w wr) (fun _ i _ => n - (intOf i).toNat)
  case atStart => exact ⟨0, ⟨#[]⟩, Nat.zero_le _, rfl, rfl, ⟨rfl, fun i hi => by omega⟩, by decide, Below.refl _ _⟩
  case round =>
    obtain ⟨k, o, hk, rfl, rfl, HA, hos, hR⟩ := hrel
    by_cases hkn : k < n
    · obtain ⟨kv, h6, hrow⟩ := HC.out k hkn
      obtain ⟨c0, c1, c2, c3, c4, c5⟩ := h6.later hR
      obtain ⟨ao, cp, rfl⟩ := hrow.shape
      obtain ⟨Y, hY⟩ : ∃ Y, Y = wr.alloc (.cells #[.string (G k).s, .int .i64 (G k).kd, .int .i64 (G k).lo, .int .i64 (G k).hi, .slice ao (G k).n cp, .float .f64 (G k).x] 28) := ⟨_, rfl⟩
      obtain ⟨q, hq⟩ : ∃ q, q = wr.heap.size := ⟨_, rfl⟩
      have HY : Hid (Below w.heap.size w Y ∧ GCopy Y q (G k) (.slice ao (G k).n cp)) := by
        have h1 : Below wr.heap.size wr Y := by rw [hY]; exact (Below.refl _ _).alloc (Nat.le_refl _) _
        have h2 : Below w.heap.size w Y := hR.trans (h1.mono hR.size)
        exact ⟨h2, ⟨by rw [hY, hq]; exact six_new _ _ _ _ _ _ _ _, hrow.later h2⟩⟩
      clear h6 hrow hR
      go_upto_region 7 with fail
      rw [← hY, ← hq]
      clear hY hq c0 c1 c2 c3 c4 c5
      have y0 : ∀ x : Kept Y.heap.size Y, x.w.cell? ⟨q, 0, none⟩ = some (.string (G k).s) := fun x => (HY.out.2.later x.h).six.c0
      have y1 : ∀ x : Kept Y.heap.size Y, x.w.cell? ⟨q, 1, none⟩ = some (.int .i64 (G k).kd) := fun x => (HY.out.2.later x.h).six.c1
      have y2 : ∀ x : Kept Y.heap.size Y, x.w.cell? ⟨q, 2, none⟩ = some (.int .i64 (G k).lo) := fun x => (HY.out.2.later x.h).six.c2
      have y3 : ∀ x : Kept Y.heap.size Y, x.w.cell? ⟨q, 3, none⟩ = some (.int .i64 (G k).hi) := fun x => (HY.out.2.later x.h).six.c3
      have y4 : ∀ x : Kept Y.heap.size Y, x.w.cell? ⟨q, 4, none⟩ = some (.slice ao (G k).n cp) := fun x => (HY.out.2.later x.h).six.c4
      have y5 : ∀ x : Kept Y.heap.size Y, x.w.cell? ⟨q, 5, none⟩ = some (.float .f64 (G k).x) := fun x => (HY.out.2.later x.h).six.c5
      have HN : Hid (∀ x : Kept Y.heap.size Y, Calls Tryd.prog 62 #[.slice (some ⟨b, off, none⟩) k cap, .agg #[.string (G k).s, .int .i64 (G k).kd, .int .i64 (G k).lo, .int .i64 (G k).hi, .slice ao (G k).n cp, .float .f64 (G k).x]] x.w fun e w' => e = .returned (.int .i64 (nfC G k (G k))) ∧ Below x.w.heap.size x.w w') := fun x => by
        have hB : Below w.heap.size w x.w := box_step HY.out.1 x.h (Nat.le_refl _)
        exact nf_any (HL.out _ k hB (by omega)) (by omega) (HT.out _ hB).t (HY.out.2.later x.h).row
      have hkc : (k : Int) ≤ cap := by omega
      have hk0 : (0 : Int) ≤ k := by omega
      generalize hcode : nfC G k (G k) = code at HN
      have HCD : Hid (nfC G k (G k) = code) := hcode
      clear hcode
      by_cases hz : code = 0
      · subst hz
        by_cases hsh : FloatKind.f64.format.order (G k).x 0 = some .eq
        · have hsb : (FloatKind.f64.format.order (G k).x 0 != some .eq) = false := by rw [hsh]; rfl
          have HGD : Hid (Good G k) := nf_good HCD.out hsh
          have HRt : Hid (Right (G k)) := right_of HGD.out.1
          refine wp_region_kept Y.heap.size (by kernel_rfl) (by kernel_rfl) ?_
          intro hne
          repeat (go_big_quiet_step ((go_at_call 62; exact Calls.kept_of (Nat.le_refl _) (HN.out _))))
          refine wpQuiet_nil ?_
          rintro w4 ⟨xk, hxk⟩
          have hR4 := xk.h
          rw [← hxk] at hR4
          have A4 : Hid (Below w.heap.size w w4 ∧ GCopy w4 q (G k) (.slice ao (G k).n cp)) := ⟨box_step HY.out.1 hR4 (by omega), HY.out.2.later hR4⟩
          clear hxk xk hne hR4 y0 y1 y2 y3 y4 y5 HN hsh hsb
          obtain ⟨c0, c1, c2, c3, c4, c5⟩ := A4.out.2.six
          have hls := line_size HRt.out
          have HTX : Hid (o ++ lineB (G k) = textB G (k + 1)) := (show _ = textB G k ++ lineB (G k) by rw [← HA.out.1])
          have HLN : Hid (Calls Tryd.prog 66 #[.agg #[.string (G k).s, .int .i64 (G k).kd, .int .i64 (G k).lo, .int .i64 (G k).hi, .slice ao (G k).n cp, .float .f64 (G k).x]] w4 fun e w' => e = .returned (.string (lineB (G k))) ∧ Below w4.heap.size w4 w') := iLine_any HRt.out (HT.out _ A4.out.1) A4.out.2.row
          generalize lineB (G k) = ln at *
          go_wp2_with (first | (go_at_call 66; refine HLN.out.mono ?_; rintro e w5 ⟨rfl, b5⟩; have HB5 : Hid (Below w.heap.size w w5) := box_step A4.out.1 b5 (by omega); clear b5))
          go_roundw
          case rel => exact ⟨k + 1, _, by omega, by simp, rfl, ⟨HTX.out, fun i hi => by by_cases e : i = k; exact (by rw [e]; exact HGD.out); exact HA.out.2 i (by omega)⟩, by rw [ByteArray.size_append]; omega, HB5.out⟩
          case measure => simp [intOf]; omega
        · have hsb : (FloatKind.f64.format.order (G k).x 0 != some .eq) = true := by simpa using hsh
          have HNO : Hid (¬ OkAll G n) := bad_no hkn (fun h => hsh h.2.1)
          refine wp_region_kept Y.heap.size (by kernel_rfl) (by kernel_rfl) ?_
          intro hne
          repeat (go_big_quiet_step ((go_at_call 62; exact Calls.kept_of (Nat.le_refl _) (HN.out _))))
          refine wpQuiet_nil ?_
          rintro w4 ⟨xk, hxk⟩
          have hR4 := xk.h
          rw [← hxk] at hR4
          have HB : Hid (Below w.heap.size w w4) := box_step HY.out.1 hR4 (by omega)
          clear hxk xk hne hR4 y0 y1 y2 y3 y4 y5 HN
          go_wp2
          go_ret
          exact ⟨_, rfl, Or.inr ⟨HNO.out, rfl⟩, HB.out⟩
      · have HNO : Hid (¬ OkAll G n) := bad_no hkn (fun h => hz (HCD.out.symm.trans (good_nf h (by omega))))
        have hzb : (code != 0) = true := by simpa using hz
        refine wp_region_kept Y.heap.size (by kernel_rfl) (by kernel_rfl) ?_
        intro hne
        repeat (go_big_quiet_step ((go_at_call 62; exact Calls.kept_of (Nat.le_refl _) (HN.out _))))
        refine wpQuiet_nil ?_
        rintro w4 ⟨xk, hxk⟩
        have hR4 := xk.h
        rw [← hxk] at hR4
        have HB : Hid (Below w.heap.size w w4) := box_step HY.out.1 hR4 (by omega)
        clear hxk xk hne hR4 y0 y1 y2 y3 y4 y5 HN
        go_wp2
        go_ret
        exact ⟨_, rfl, Or.inr ⟨HNO.out, rfl⟩, HB.out⟩
    · obtain rfl : k = n := by omega
      by_cases hb4 : 4000 < o.size
      · have HN : Hid (¬ OkAll G k) := fun a => by
          have := a.2.2
          rw [← HA.out.1] at this
          omega
        have hb4' : (4000 : Int) < o.size := by omega
        go_wp2
        go_ret
        exact ⟨_, rfl, Or.inr ⟨HN.out, rfl⟩, hR⟩
      · have HF : Hid (Fm G k o) := by
          obtain ⟨h1, h2⟩ := HA.out
          exact Or.inl ⟨⟨by omega, h2, by rw [← h1]; omega⟩, h1⟩
        have hb4' : ¬ (4000 : Int) < o.size := by omega
        go_wp2
        go_ret
        exact ⟨_, rfl, HF.out, hR⟩
set_option maxHeartbeats 800000 in
theorem iFmt_none (ao : Option Addr) (cap : Nat) (G : Nat → Gl) (w : World) :
    Calls Tryd.prog 36 #[.slice ao 0 cap] w fun e w' => ∃ t, e = .returned (.string t) ∧ Fm G 0 t ∧ Below w.heap.size w w' := by
  go_enter Tryd.func36, Tryd.ntmps36
  go_wp2_with fail
  refine wp_loop_rounds 1 ?_
  rw [rounds_succ]
  go_wp2
  go_ret
  exact ⟨_, rfl, Or.inl ⟨⟨by omega, fun i hi => by omega, (show (⟨#[]⟩ : ByteArray).size ≤ 4000 by decide)⟩, rfl⟩, Below.refl _ _⟩
theorem iFmt_any {w : World} {ao : Option Addr} {n : Nat} {G : Nat → Gl} (h : RdG w (.slice ao n n) n G) (hn : n ≤ 1000000000) (T : WTab w) :
    Calls Tryd.prog 36 #[.slice ao n n] w fun e w' => ∃ t, e = .returned (.string t) ∧ Fm G n t ∧ Below w.heap.size w w' := by
  rcases h with ⟨a, cap, e, e0⟩ | ⟨b, off, cap, e, hc⟩
  · subst e0
    exact iFmt_none ao 0 G w
  · obtain ⟨rfl, rfl⟩ : ao = some ⟨b, off, none⟩ ∧ n = cap := by simpa using e
    exact iFmt_some b off n n G w hn (Nat.le_refl _) T hc
end Go.Proofs.YtndfncjoknibaaaDoor
