/- The specification's sorting of a list of floats, of whatever length: a contract. -/
import Derived.Test.YtbhpdlhmkmkbhaaSSort
namespace Go.Proofs.Ytbhpdlhmkmkbhaa
open Go.RowKit Fl Sr
set_option linter.unusedVariables false
/-- The merging under way: the row v holds the first i + j floats. -/
def Mrg (w2 w : World) (na nb : Nat) (ga gb : Nat → Nat) (v : Value) (i j : Nat) : Prop :=
  ∃ h : Nat → Nat, w.ownsRow w2.heap.size 24 1 v (i + j) ((List.range (i + j)).map fun p => .float .f64 (h p)) ∧ Mg rk na nb ga gb h (i + j) i j ∧ Below w2.heap.size w2 w ∧ v ≠ .slice none 0 0 ∧ ∀ p, p < i + j → h p < 18446744073709551616
theorem mrg_start (w2 : World) (na nb : Nat) (ga gb : Nat → Nat) : Mrg w2 (w2.alloc (.cells #[] 24)) na nb ga gb (.slice (some ⟨w2.heap.size, 0, none⟩) 0 0) 0 0 :=
  ⟨fun _ => 0, owns_empty w2 24, Mg.start _ _ _ _ _, (Below.refl _ _).alloc (Nat.le_refl _) _, by simp, fun p hp => by omega⟩
theorem range_put (h : Nat → Nat) (k x : Nat) : ((List.range k).map fun p => Value.float .f64 (h p)) ++ [.float .f64 x] = (List.range (k + 1)).map fun p => Value.float .f64 (put h k x p) := by
  rw [List.range_succ, List.map_append]
  congr 1
  · refine List.map_congr_left fun p hp => ?_
    rw [put_lt (List.mem_range.1 hp)]
  · simp [put_at]
theorem mrg_put {w2 w w1 : World} {na nb : Nat} {ga gb h : Nat → Nat} {v v1 : Value} {k x i' j' : Nat} (ho : w.ownsRow w2.heap.size 24 1 v k ((List.range k).map fun p => .float .f64 (h p))) (hb : Below w2.heap.size w2 w) (hl : ∀ p, p < k → h p < 18446744073709551616) (hx : x < 18446744073709551616)
    (h1 : w1.ownsRow w2.heap.size 24 1 v1 (k + 1) (((List.range k).map fun p => .float .f64 (h p)) ++ [.float .f64 x])) (h2 : (w.alloc (.cells #[.float .f64 x] 24)).grownBy w1 v.ownBlock) (h3 : v1 ≠ .slice none 0 0)
    (hk : k + 1 = i' + j') (hm : Mg rk na nb ga gb (put h k x) (k + 1) i' j') : Mrg w2 w1 na nb ga gb v1 i' j' := by
  rw [range_put] at h1
  refine ⟨put h k x, by rw [← hk]; exact h1, by rw [← hk]; exact hm, push_below ho h2 hb hb.size, h3, fun p hp => ?_⟩
  rw [← hk] at hp
  by_cases c : p = k
  · rw [c, put_at]; exact hx
  · rw [put_lt (by omega)]; exact hl p (by omega)
theorem drewN_owns {w : World} {base n : Nat} {t : TypeId} {v : Value} {xs : List Value} (h : w.ownsRow base t 1 v n xs) (q : Nat) : (w.drewN q).ownsRow base t 1 v n xs := h
theorem cmpF_le {x y : Nat} : cmpF x y ≤ 0 ↔ rk x ≤ rk y := by
  unfold cmpF
  by_cases h1 : rk x < rk y
  · rw [if_pos h1]; simp; omega
  · rw [if_neg h1]
    by_cases h2 : rk y < rk x
    · rw [if_pos h2]; simp; omega
    · rw [if_neg h2]; simp; omega
set_option maxRecDepth 100000 in
set_option maxHeartbeats 3200000 in
theorem sSort_more (b off n cap h : Nat) (f : Nat → Nat) (w : World) (h2 : 2 ≤ n) (hcap : n ≤ cap) (hcap2 : cap ≤ 1000000000) (hh : h < n) (hh0 : 1 ≤ h) (hd : (n : Int).tdiv 2 = (h : Int))
    (H1 : Hid (Calls Try.prog 36 #[.slice (some ⟨b, off, none⟩) h cap] w fun e w' => ∃ v, e = .returned v ∧ SortedOf w w' v h f))
    (H2 : Hid (∀ W, Below w.heap.size w W → Calls Try.prog 36 #[.slice (some ⟨b, off + h, none⟩) (n - h) (cap - h)] W fun e w' => ∃ v, e = .returned v ∧ SortedOf W w' v (n - h) (fun i => f (h + i)))) :
    Calls Try.prog 36 #[.slice (some ⟨b, off, none⟩) n cap] w fun e w' => ∃ v, e = .returned v ∧ SortedOf w w' v n f := by
  go_enter Try.func36, Try.ntmps36
  go_wp2_with fail
  refine H1.out.mono ?_
  rintro e w1 ⟨v1, rfl, h1⟩
  obtain ⟨Ba, ca, ga, rfl, r1, r2, r3, r4, r5, r6⟩ := h1
  have A1 : Hid (w.heap.size ≤ Ba ∧ Seg w1 Ba 24 0 h (fun i => .float .f64 (ga i)) ∧ (∀ i, i < h → ga i < 18446744073709551616) ∧ Pm 0 h f ga ∧ Srt rk 0 h ga ∧ Below w.heap.size w w1) := ⟨r1, r2, r3, r4, r5, r6⟩
  clear r1 r2 r3 r4 r5 r6 H1
  go_wp2_with fail
  refine (H2.out _ A1.out.2.2.2.2.2).mono ?_
  rintro e w2 ⟨v2, rfl, h1⟩
  obtain ⟨Bb, cb, gb, rfl, r1, r2, r3, r4, r5, r6⟩ := h1
  obtain ⟨nb, hnb⟩ : ∃ nb, nb = n - h := ⟨_, rfl⟩
  rw [← hnb] at r2 r3 r4 r5 ⊢
  have hsum : h + nb = n := by omega
  have A2 : Hid (Seg w2 Ba 24 0 h (fun i => .float .f64 (ga i)) ∧ (∀ i, i < h → ga i < 18446744073709551616) ∧ Pm 0 h f ga ∧ Srt rk 0 h ga ∧ Seg w2 Bb 24 0 nb (fun i => .float .f64 (gb i)) ∧ (∀ i, i < nb → gb i < 18446744073709551616) ∧ Pm 0 nb (fun i => f (h + i)) gb ∧ Srt rk 0 nb gb ∧ Below w.heap.size w w2) :=
    ⟨A1.out.2.1.below r6, A1.out.2.2.1, A1.out.2.2.2.1, A1.out.2.2.2.2.1, r2, r3, r4, r5, A1.out.2.2.2.2.2.trans (r6.mono A1.out.2.2.2.2.2.size)⟩
  have HM : Hid (Mrg w2 (w2.alloc (.cells #[] 24)) h nb ga gb (.slice (some ⟨w2.heap.size, 0, none⟩) 0 0) 0 0) := mrg_start w2 h nb ga gb
  have HSum : Hid (h + nb = n ∧ nb = n - h) := ⟨hsum, hnb⟩
  have b1 : h ≤ 1000000000 := by omega
  have b2 : nb ≤ 1000000000 := by omega
  have b3 : h + nb ≤ 1000000000 := by omega
  clear r1 r2 r3 r4 r5 r6 A1 H2 hnb hsum
  go_wp2_with fail
  go_loopw [5, 6, 7] (fun u p q wr => ∃ i j : Nat, p = .int .i64 i ∧ q = .int .i64 j ∧ i ≤ h ∧ j ≤ nb ∧ Hid (Mrg w2 wr h nb ga gb u i j)) (fun _ p q _ => h + nb - ((intOf p).toNat + (intOf q).toNat))
  case atStart => exact ⟨0, 0, rfl, rfl, by omega, by omega, HM⟩
  case round =>
    obtain ⟨i, j, rfl, rfl, l1, l2, HG⟩ := hrel
    clear HM
    by_cases hj : j < nb
    · have dj : ((j : Int) == (nb : Int)) = false := by simp; omega
      by_cases hi : i < h
      · have di : decide ((i : Int) < (h : Int)) = true := decide_eq_true (by omega)
        obtain ⟨x0, y0, cv, g1, g2, HC, HL⟩ : ∃ (x0 y0 : Nat) (cv : Int), wr.cell? ⟨Ba, i, none⟩ = some (.float .f64 x0) ∧ wr.cell? ⟨Bb, j, none⟩ = some (.float .f64 y0) ∧
            Hid (∀ q, Calls Try.prog 35 #[.float .f64 x0, .float .f64 y0] (wr.drewN q) fun e w' => e = .returned (.int .i64 cv) ∧ wr.drewN q = w') ∧ Hid (cv ≤ 0 ↔ rk (ga i) ≤ rk (gb j)) := by
          obtain ⟨hh, o1, m1, bl, nn, ll⟩ := HG.out
          refine ⟨ga i, gb j, cmpF (ga i) (gb j), ?_, ?_, fun q => sCmp_any (A2.out.2.1 i hi) (A2.out.2.2.2.2.2.1 j hj) _, cmpF_le⟩
          · have := (A2.out.1.below bl).cell (i := i) hi
            simpa using this
          · have := (A2.out.2.2.2.2.1.below bl).cell (i := j) hj
            simpa using this
        by_cases hcv : cv ≤ 0
        · have dc : decide (cv ≤ 0) = true := decide_eq_true hcv
          go_wp2
          go_quiet (first | (go_at_call 35; exact quiet_eq (HC.out _)))
          obtain ⟨wd, hwd⟩ : ∃ wd, wd = wr.drewN nq := ⟨_, rfl⟩
          obtain ⟨x, hx, xlt⟩ : ∃ x, wd.cell? ⟨Ba, i, none⟩ = some (.float .f64 x) ∧ Hid (x = ga i) := by
            obtain ⟨hh, o1, m1, bl, nn, ll⟩ := HG.out
            refine ⟨ga i, ?_, rfl⟩
            rw [hwd]
            have := (A2.out.1.below bl).cell (i := i) (by omega)
            simpa using this
          have HO : Hid (∃ hh, wd.ownsRow w2.heap.size 24 1 u5 (i + j) ((List.range (i + j)).map fun p => .float .f64 (hh p)) ∧ Below w2.heap.size w2 wd ∧ (∀ p, p < i + j → hh p < 18446744073709551616) ∧ Mg rk h nb ga gb (put hh (i + j) (ga i)) (i + j + 1) (i + 1) (j)) := by
            obtain ⟨hh, o1, m1, bl, nn, ll⟩ := HG.out
            rw [hwd]
            exact ⟨hh, drewN_owns o1 nq, below_drewN bl nq, ll, m1.takeA A2.out.2.2.2.1 (by omega) (Or.inr (HL.out.1 hcv))⟩
          obtain ⟨hh, ho1, ho2, ho3, ho4⟩ := HO.out
          have O1 : Hid (wd.ownsRow w2.heap.size 24 1 u5 (i + j) ((List.range (i + j)).map fun p => .float .f64 (hh p)) ∧ Below w2.heap.size w2 wd ∧ (∀ p, p < i + j → hh p < 18446744073709551616) ∧ Mg rk h nb ga gb (put hh (i + j) (ga i)) (i + j + 1) (i + 1) (j)) := ⟨ho1, ho2, ho3, ho4⟩
          have hws := ho2.size
          rw [← hwd]
          clear ho1 ho2 ho3 ho4 HO HG hwd g1 g2 HC HL
          go_wp2_with (first | (at_builtin; refine push_law rfl (.tmp 59) (.tmp 64) rfl wd x w2.heap.size u5 (i + j) _ rfl O1.out.1 1 rfl (by omega) hws ?_; intro v1 w3 own3 grow3 nn3))
          have HN : Hid (Mrg w2 w3 h nb ga gb v1 (i + 1) (j)) := by
            have e := xlt.out
            rw [e] at own3 grow3
            exact mrg_put O1.out.1 O1.out.2.1 O1.out.2.2.1 (A2.out.2.1 i (by omega)) own3 grow3 nn3 (by omega) O1.out.2.2.2
          clear own3 grow3 nn3 O1 hx xlt
          go_wp2
          go_roundw
          case rel => exact ⟨i + 1, j, by simp, by simp, by omega, by omega, HN⟩
          case measure => simp [intOf]; omega
        · have dc : decide (cv ≤ 0) = false := decide_eq_false hcv
          go_wp2
          go_quiet (first | (go_at_call 35; exact quiet_eq (HC.out _)))
          obtain ⟨wd, hwd⟩ : ∃ wd, wd = wr.drewN nq := ⟨_, rfl⟩
          obtain ⟨x, hx, xlt⟩ : ∃ x, wd.cell? ⟨Bb, j, none⟩ = some (.float .f64 x) ∧ Hid (x = gb j) := by
            obtain ⟨hh, o1, m1, bl, nn, ll⟩ := HG.out
            refine ⟨gb j, ?_, rfl⟩
            rw [hwd]
            have := (A2.out.2.2.2.2.1.below bl).cell (i := j) (by omega)
            simpa using this
          have HO : Hid (∃ hh, wd.ownsRow w2.heap.size 24 1 u5 (i + j) ((List.range (i + j)).map fun p => .float .f64 (hh p)) ∧ Below w2.heap.size w2 wd ∧ (∀ p, p < i + j → hh p < 18446744073709551616) ∧ Mg rk h nb ga gb (put hh (i + j) (gb j)) (i + j + 1) (i) (j + 1)) := by
            obtain ⟨hh, o1, m1, bl, nn, ll⟩ := HG.out
            rw [hwd]
            exact ⟨hh, drewN_owns o1 nq, below_drewN bl nq, ll, m1.takeB A2.out.2.2.2.2.2.2.2.1 (by omega) (Or.inr (by have := mt HL.out.2 (by omega : ¬ cv ≤ 0); omega))⟩
          obtain ⟨hh, ho1, ho2, ho3, ho4⟩ := HO.out
          have O1 : Hid (wd.ownsRow w2.heap.size 24 1 u5 (i + j) ((List.range (i + j)).map fun p => .float .f64 (hh p)) ∧ Below w2.heap.size w2 wd ∧ (∀ p, p < i + j → hh p < 18446744073709551616) ∧ Mg rk h nb ga gb (put hh (i + j) (gb j)) (i + j + 1) (i) (j + 1)) := ⟨ho1, ho2, ho3, ho4⟩
          have hws := ho2.size
          rw [← hwd]
          clear ho1 ho2 ho3 ho4 HO HG hwd g1 g2 HC HL
          go_wp2_with (first | (at_builtin; refine push_law rfl (.tmp 68) (.tmp 73) rfl wd x w2.heap.size u5 (i + j) _ rfl O1.out.1 1 rfl (by omega) hws ?_; intro v1 w3 own3 grow3 nn3))
          have HN : Hid (Mrg w2 w3 h nb ga gb v1 (i) (j + 1)) := by
            have e := xlt.out
            rw [e] at own3 grow3
            exact mrg_put O1.out.1 O1.out.2.1 O1.out.2.2.1 (A2.out.2.2.2.2.2.1 j (by omega)) own3 grow3 nn3 (by omega) O1.out.2.2.2
          clear own3 grow3 nn3 O1 hx xlt
          go_wp2
          go_roundw
          case rel => exact ⟨i, j + 1, by simp, by simp, by omega, by omega, HN⟩
          case measure => simp [intOf]; omega
      · obtain rfl : i = h := by omega
        have di : decide ((i : Int) < (i : Int)) = false := decide_eq_false (by omega)
        go_wp2
        go_quiet (fail)
        obtain ⟨wd, hwd⟩ : ∃ wd, wd = wr.drewN nq := ⟨_, rfl⟩
        obtain ⟨x, hx, xlt⟩ : ∃ x, wd.cell? ⟨Bb, j, none⟩ = some (.float .f64 x) ∧ Hid (x = gb j) := by
          obtain ⟨hh, o1, m1, bl, nn, ll⟩ := HG.out
          refine ⟨gb j, ?_, rfl⟩
          rw [hwd]
          have := (A2.out.2.2.2.2.1.below bl).cell (i := j) (by omega)
          simpa using this
        have HO : Hid (∃ hh, wd.ownsRow w2.heap.size 24 1 u5 (i + j) ((List.range (i + j)).map fun p => .float .f64 (hh p)) ∧ Below w2.heap.size w2 wd ∧ (∀ p, p < i + j → hh p < 18446744073709551616) ∧ Mg rk i nb ga gb (put hh (i + j) (gb j)) (i + j + 1) (i) (j + 1)) := by
          obtain ⟨hh, o1, m1, bl, nn, ll⟩ := HG.out
          rw [hwd]
          exact ⟨hh, drewN_owns o1 nq, below_drewN bl nq, ll, m1.takeB A2.out.2.2.2.2.2.2.2.1 (by omega) (Or.inl rfl)⟩
        obtain ⟨hh, ho1, ho2, ho3, ho4⟩ := HO.out
        have O1 : Hid (wd.ownsRow w2.heap.size 24 1 u5 (i + j) ((List.range (i + j)).map fun p => .float .f64 (hh p)) ∧ Below w2.heap.size w2 wd ∧ (∀ p, p < i + j → hh p < 18446744073709551616) ∧ Mg rk i nb ga gb (put hh (i + j) (gb j)) (i + j + 1) (i) (j + 1)) := ⟨ho1, ho2, ho3, ho4⟩
        have hws := ho2.size
        rw [← hwd]
        clear ho1 ho2 ho3 ho4 HO HG hwd
        go_wp2_with (first | (at_builtin; refine push_law rfl (.tmp 68) (.tmp 73) rfl wd x w2.heap.size u5 (i + j) _ rfl O1.out.1 1 rfl (by omega) hws ?_; intro v1 w3 own3 grow3 nn3))
        have HN : Hid (Mrg w2 w3 i nb ga gb v1 (i) (j + 1)) := by
          have e := xlt.out
          rw [e] at own3 grow3
          exact mrg_put O1.out.1 O1.out.2.1 O1.out.2.2.1 (A2.out.2.2.2.2.2.1 j (by omega)) own3 grow3 nn3 (by omega) O1.out.2.2.2
        clear own3 grow3 nn3 O1 hx xlt
        go_wp2
        go_roundw
        case rel => exact ⟨i, j + 1, by simp, by simp, by omega, by omega, HN⟩
        case measure => simp [intOf]; omega
    · obtain rfl : j = nb := by omega
      by_cases hi : i < h
      · have dj : ((j : Int) == (j : Int)) = true := by simp
        go_wp2
        go_quiet (fail)
        obtain ⟨wd, hwd⟩ : ∃ wd, wd = wr.drewN nq := ⟨_, rfl⟩
        obtain ⟨x, hx, xlt⟩ : ∃ x, wd.cell? ⟨Ba, i, none⟩ = some (.float .f64 x) ∧ Hid (x = ga i) := by
          obtain ⟨hh, o1, m1, bl, nn, ll⟩ := HG.out
          refine ⟨ga i, ?_, rfl⟩
          rw [hwd]
          have := (A2.out.1.below bl).cell (i := i) (by omega)
          simpa using this
        have HO : Hid (∃ hh, wd.ownsRow w2.heap.size 24 1 u5 (i + j) ((List.range (i + j)).map fun p => .float .f64 (hh p)) ∧ Below w2.heap.size w2 wd ∧ (∀ p, p < i + j → hh p < 18446744073709551616) ∧ Mg rk h j ga gb (put hh (i + j) (ga i)) (i + j + 1) (i + 1) (j)) := by
          obtain ⟨hh, o1, m1, bl, nn, ll⟩ := HG.out
          rw [hwd]
          exact ⟨hh, drewN_owns o1 nq, below_drewN bl nq, ll, m1.takeA A2.out.2.2.2.1 (by omega) (Or.inl rfl)⟩
        obtain ⟨hh, ho1, ho2, ho3, ho4⟩ := HO.out
        have O1 : Hid (wd.ownsRow w2.heap.size 24 1 u5 (i + j) ((List.range (i + j)).map fun p => .float .f64 (hh p)) ∧ Below w2.heap.size w2 wd ∧ (∀ p, p < i + j → hh p < 18446744073709551616) ∧ Mg rk h j ga gb (put hh (i + j) (ga i)) (i + j + 1) (i + 1) (j)) := ⟨ho1, ho2, ho3, ho4⟩
        have hws := ho2.size
        rw [← hwd]
        clear ho1 ho2 ho3 ho4 HO HG hwd
        go_wp2_with (first | (at_builtin; refine push_law rfl (.tmp 59) (.tmp 64) rfl wd x w2.heap.size u5 (i + j) _ rfl O1.out.1 1 rfl (by omega) hws ?_; intro v1 w3 own3 grow3 nn3))
        have HN : Hid (Mrg w2 w3 h j ga gb v1 (i + 1) (j)) := by
          have e := xlt.out
          rw [e] at own3 grow3
          exact mrg_put O1.out.1 O1.out.2.1 O1.out.2.2.1 (A2.out.2.1 i (by omega)) own3 grow3 nn3 (by omega) O1.out.2.2.2
        clear own3 grow3 nn3 O1 hx xlt
        go_wp2
        go_roundw
        case rel => exact ⟨i + 1, j, by simp, by simp, by omega, by omega, HN⟩
        case measure => simp [intOf]; omega
      · obtain rfl : i = h := by omega
        obtain ⟨hh, o1, m1, bl, nn, ll⟩ := HG.out
        obtain ⟨G, cg, hv, g1, g2⟩ := owned_seg o1 nn
        subst hv
        have HN : Hid (SortedOf w wr (.slice (some ⟨G, 0, none⟩) (i + j) cg) n f) := by
          have hs := HSum.out.1
          obtain ⟨p1, q1⟩ := m1.whole A2.out.2.2.1 A2.out.2.2.2.2.2.2.1
          rw [hs] at p1 q1 g2 ⊢
          refine ⟨G, cg, clip n hh f, rfl, Nat.le_trans A2.out.2.2.2.2.2.2.2.2.size g1, g2.congr fun k hk => by unfold clip; rw [if_pos hk], fun k hk => ?_, p1, q1, A2.out.2.2.2.2.2.2.2.2.trans (bl.mono A2.out.2.2.2.2.2.2.2.2.size)⟩
          unfold clip
          rw [if_pos hk]
          exact ll k (by omega)
        clear o1 m1 bl nn ll g1 g2 HG
        go_wp2
        go_ret
        exact ⟨_, rfl, HN.out⟩
theorem sSort_any : ∀ (n b off cap : Nat) (f : Nat → Nat) (w : World), n ≤ cap → cap ≤ 1000000000 → (∀ i, i < n → w.cell? ⟨b, off + i, none⟩ = some (.float .f64 (f i))) → (∀ i, i < n → f i < 18446744073709551616) →
    Calls Try.prog 36 #[.slice (some ⟨b, off, none⟩) n cap] w fun e w' => ∃ v, e = .returned v ∧ SortedOf w w' v n f := by
  intro n
  induction n using Nat.strongRecOn with
  | ind n ih =>
    intro b off cap f w h1 h2 hc hf
    by_cases c0 : n < 2
    · exact sSort_small b off n cap f w c0 hc hf
    · refine sSort_more b off n cap (n / 2) f w (by omega) h1 h2 (by omega) (by omega) (by rw [Int.tdiv_eq_ediv_of_nonneg (by omega)]; omega) ?_ ?_
      · exact ih (n / 2) (by omega) b off cap f w (by omega) h2 (fun i hi => hc i (by omega)) (fun i hi => hf i (by omega))
      · intro W hW
        refine ih (n - n / 2) (by omega) b (off + n / 2) (cap - n / 2) (fun i => f (n / 2 + i)) W (by omega) (by omega) (fun i hi => ?_) (fun i hi => hf _ (by omega))
        rw [Nat.add_assoc]
        exact cells_later hc hW (n / 2 + i) (by omega)
end Go.Proofs.Ytbhpdlhmkmkbhaa

