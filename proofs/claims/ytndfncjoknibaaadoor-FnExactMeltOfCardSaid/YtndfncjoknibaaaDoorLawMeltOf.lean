/- At every glass, colour and index that come in, the program's MeltOf answers the specification's code and glass, where the law's own bound on the sizes does not answer first; what it answers owns its memory, behind another call too; nothing that was there is changed. Conditions: the program's table of counts starts as its text lays it (the card ties it). -/
import Derived.Test.YtndfncjoknibaaaDoorRows
import Derived.Test.YtndfncjoknibaaaDoorCards
import Derived.Test.YtndfncjoknibaaaDoorTie
import Derived.Test.YtndfncjoknibaaaDoorOpen
import Derived.Test.YtndfncjoknibaaaDoorMk
import Derived.Handy
import Derived.WalkKit
import Derived.Deep.RegionHeld3
import Derived.Deep.DeepCutAuto
namespace Go.Proofs.YtndfncjoknibaaaDoor.LawMeltOf
open Go.ChangeShapes Go.WideShapes Go.ChangeAt Go.RowKit Go.Joins Fl
set_option linter.unusedVariables false
set_option maxRecDepth 100000 in
theorem open_float {H : Type} {enc : TypeId × Value → H} {W : World} {base : Nat} {v : Value} {d : DataW H} {p : List MemPlace} (hv : Value.okWide Tryd.prog W .any base 23 v)
    (h : DataW.Trod enc Tryd.prog W 0 (fun _ => true) true 23 v d p) : ∃ x, v = .float .f64 x ∧ x < 18446744073709551616 := by
  obtain ⟨fuel, hf⟩ := h
  have hv2 : ∃ x, v = .float .f64 x := by
    simp only [Value.okWide, Tryd.underlying23, Cell.okWide] at hv
    cases v <;> simp_all [Cell.ok]
  obtain ⟨x, rfl⟩ := hv2
  obtain ⟨y, e5, wy⟩ := trod_float Tryd.underlying23 (cs := [.float .f64 x]) (by simpa [Value.cells] using hf)
  simp at e5
  subst e5
  exact ⟨x, rfl, f64_lt wy⟩
set_option maxHeartbeats 6400000 in
theorem walk {s : ByteArray} {kd lo hi nm : Int} {yy : Nat} {k : Value} {n : Nat} {f : Nat → Int} {x : Nat} {w : World} (hr : RdRow w k n f) (hs : s.size ≤ 9223372036854775807) (hn : n ≤ 9223372036854775807) (hx : x < 18446744073709551616) (hyy : yy < 18446744073709551616) (T : Tab w) :
    Calls Tryd.prog 7 #[.agg #[.string s, .int .i64 kd, .int .i64 lo, .int .i64 hi, k, .float .f64 x], .int .i64 nm, .float .f64 yy] w fun e w' => e = .returned (.bool true) ∧ Below w.heap.size w w' := by
  have hst := st64
  obtain ⟨ao, cap, rfl⟩ := hr.shape
  have HR : Hid (RdRow w (.slice ao n cap) n f ∧ Tab w ∧ x < 18446744073709551616 ∧ yy < 18446744073709551616) := ⟨hr, T, hx, hyy⟩
  clear hr T hx hyy
  go_enter Tryd.func7, Tryd.ntmps7
  go_wp2_with fail
  obtain ⟨X, hX⟩ : ∃ X, X = w.alloc (.cells #[.string s, .int .i64 kd, .int .i64 lo, .int .i64 hi, .slice ao n cap, .float .f64 x] 25) := ⟨_, rfl⟩
  have HX : Hid (Below w.heap.size w X ∧ Six X w.heap.size (.string s) (.int .i64 kd) (.int .i64 lo) (.int .i64 hi) (.slice ao n cap) (.float .f64 x)) := by
    rw [hX]; exact ⟨(Below.refl _ _).alloc (Nat.le_refl _) _, six_new _ _ _ _ _ _ _ _⟩
  rw [← hX]
  clear hX
  refine (szG_any s kd lo hi ao n cap x 1048576 X (by omega) (by omega) hn hs).mono ?_
  rintro e w1 ⟨rfl, b1⟩
  generalize hz : szG s.size n 1048576 = r
  by_cases hr0 : r < 0
  · have HB : Hid (Below w.heap.size w w1) := HX.out.1.trans (b1.mono HX.out.1.size)
    clear b1 hz
    go_wp2
    go_ret
    exact ⟨rfl, HB.out⟩
  have hz2 := szG_no (hz ▸ hr0 : ¬ szG s.size n 1048576 < 0)
  have hn2 : n ≤ 1000000000000 := by omega
  have A1 : Hid (Below X.heap.size X w1) := b1
  have hn3 : n ≤ 1048576 := by omega
  clear b1 hz hz2
  have q1 := HX.out.2.later A1.out
  obtain ⟨c0, c1, c2, c3, c4, c5⟩ := q1
  have R1 : Hid (RdRow w1 (.slice ao n cap) n f) := HR.out.1.later (HX.out.1.trans (A1.out.mono HX.out.1.size))
  go_wp2_with fail
  refine (toG_any R1.out hn2).mono ?_
  rintro e w2 ⟨b, rfl, sg, hb, b2⟩
  have A2 : Hid (Below X.heap.size X w2) := box_step A1.out b2 (Nat.le_refl _)
  have S2 : Hid (RdRow w2 (.slice (some ⟨b, 0, none⟩) n n) n f) := sg.rd
  clear sg hb b2 A1 R1 c0 c1 c2 c3 c4 c5
  go_wp2_with fail
  refine (sMe_any (nm := nm) S2.out hn2 HR.out.2.2.1 HR.out.2.2.2).mono ?_
  rintro e w3 ⟨hmm, b3⟩
  obtain ⟨kv, y, he, hk, hy⟩ := hmm.ex
  obtain ⟨code, hcode⟩ : ∃ c, c = meltCode (cfault (gfault s kd lo hi n f x) lo hi nm nm) (meltC kd f nm x yy) := ⟨_, rfl⟩
  rw [← hcode] at he hk hy
  obtain ⟨S, hS⟩ : ∃ c, c = (if code = 0 then s else ⟨#[]⟩ : ByteArray) := ⟨_, rfl⟩
  obtain ⟨K, hK⟩ : ∃ c, c = (if code = 0 then kd else 0 : Int) := ⟨_, rfl⟩
  obtain ⟨L, hL⟩ : ∃ c, c = (if code = 0 then lo else 0 : Int) := ⟨_, rfl⟩
  obtain ⟨M, hM⟩ : ∃ c, c = (if code = 0 then hi else 0 : Int) := ⟨_, rfl⟩
  obtain ⟨N, hN⟩ : ∃ c, c = (if code = 0 then n else 0 : Nat) := ⟨_, rfl⟩
  obtain ⟨O, hO⟩ : ∃ c, c = (if code = 0 then meltC kd f nm x yy else cl 0 : Option Nat) := ⟨_, rfl⟩
  have hN2 : N ≤ 1048576 := by rw [hN]; split <;> omega
  rw [← hS, ← hK, ← hL, ← hM] at he
  rw [← hN] at hk
  rw [← hO] at hy
  have EQ : Hid (code = meltCode (cfault (gfault s kd lo hi n f x) lo hi nm nm) (meltC kd f nm x yy) ∧ S = (if code = 0 then s else ⟨#[]⟩ : ByteArray) ∧ K = (if code = 0 then kd else 0 : Int) ∧ L = (if code = 0 then lo else 0 : Int) ∧ M = (if code = 0 then hi else 0 : Int) ∧ N = (if code = 0 then n else 0 : Nat) ∧ O = (if code = 0 then meltC kd f nm x yy else cl 0 : Option Nat)) := ⟨hcode, hS, hK, hL, hM, hN, hO⟩
  clear hcode hS hK hL hM hN hO hmm
  subst he
  obtain ⟨aoS, capS, rfl⟩ := hk.shape
  have A3 : Hid (Below X.heap.size X w3 ∧ Fc y O ∧ RdRow w3 (.slice aoS N capS) N f) := ⟨box_step A2.out b3 (Nat.le_refl _), hy, hk.rd⟩
  clear b3 A2 S2 hy hk
  obtain ⟨V1, hV1⟩ : ∃ V, V = w3.alloc (.cells #[.int .i64 code, .string S, .int .i64 K, .int .i64 L, .int .i64 M, .slice aoS N capS, .float .f64 y] 40) := ⟨_, rfl⟩
  have A3b : Hid (Below X.heap.size X V1 ∧ Sev V1 w3.heap.size (.int .i64 code) (.string S) (.int .i64 K) (.int .i64 L) (.int .i64 M) (.slice aoS N capS) (.float .f64 y) ∧ RdRow V1 (.slice aoS N capS) N f) := by
    have h1 : Below X.heap.size X V1 := by rw [hV1]; exact A3.out.1.alloc A3.out.1.size _
    have h2 : Below w3.heap.size w3 V1 := by rw [hV1]; exact (Below.refl _ _).alloc (Nat.le_refl _) _
    exact ⟨h1, by rw [hV1]; exact sev_new _ _ _ _ _ _ _ _ _, A3.out.2.2.later h2⟩
  have R3 : Hid (RdRow V1 (.slice ao n cap) n f) := HR.out.1.later (HX.out.1.trans (A3b.out.1.mono HX.out.1.size))
  have q3 := HX.out.2.later A3.out.1
  have c0 : ∀ o, (w3.alloc o).cell? ⟨w.heap.size, 0, none⟩ = some (.string s) := fun o => alloc_keeps q3.c0
  have c1 : ∀ o, (w3.alloc o).cell? ⟨w.heap.size, 1, none⟩ = some (.int .i64 kd) := fun o => alloc_keeps q3.c1
  have c2 : ∀ o, (w3.alloc o).cell? ⟨w.heap.size, 2, none⟩ = some (.int .i64 lo) := fun o => alloc_keeps q3.c2
  have c3 : ∀ o, (w3.alloc o).cell? ⟨w.heap.size, 3, none⟩ = some (.int .i64 hi) := fun o => alloc_keeps q3.c3
  have c4 : ∀ o, (w3.alloc o).cell? ⟨w.heap.size, 4, none⟩ = some (.slice ao n cap) := fun o => alloc_keeps q3.c4
  have c5 : ∀ o, (w3.alloc o).cell? ⟨w.heap.size, 5, none⟩ = some (.float .f64 x) := fun o => alloc_keeps q3.c5
  have hne : ¬ w.heap.size = w3.heap.size := by have := q3.lt; omega
  clear q3
  go_wp2_with fail
  rw [← hV1]
  clear hV1
  refine (toG_any R3.out hn2).mono ?_
  rintro e w4 ⟨b, rfl, sg, hb, b4⟩
  have A4 : Hid (Below V1.heap.size V1 w4 ∧ V1.heap.size ≤ b ∧ b < w4.heap.size ∧ Seg w4 b 2 0 n (fun i => .int .i64 (f i))) := ⟨b4, hb, sg.lt, sg⟩
  clear sg hb b4 R3 c0 c1 c2 c3 c4 c5 hne
  obtain ⟨V, hV⟩ : ∃ V, V = w4.alloc (.cells #[.string s, .int .i64 kd, .int .i64 lo, .int .i64 hi, .slice (some ⟨b, 0, none⟩) n n, .float .f64 x] 28) := ⟨_, rfl⟩
  have AV : Hid (Below V1.heap.size V1 V ∧ Six V w4.heap.size (.string s) (.int .i64 kd) (.int .i64 lo) (.int .i64 hi) (.slice (some ⟨b, 0, none⟩) n n) (.float .f64 x) ∧ Seg V b 2 0 n (fun i => .int .i64 (f i)) ∧ w4.heap.size < V.heap.size) := by
    have hB : Below w4.heap.size w4 V := by rw [hV]; exact (Below.refl _ _).alloc (Nat.le_refl _) _
    have hz : w4.heap.size < V.heap.size := by rw [hV]; simp
    exact ⟨box_step A4.out.1 hB (Nat.le_refl _), by rw [hV]; exact six_new _ _ _ _ _ _ _ _, A4.out.2.2.2.of_block (hB.block _ A4.out.2.2.1), hz⟩
  have OV : Hid (∀ W, Below V1.heap.size V1 W → Below w.heap.size w W) := fun W h => HX.out.1.trans ((A3b.out.1.trans (h.mono A3b.out.1.size)).mono HX.out.1.size)
  have TV : Hid (∀ W, Below V1.heap.size V1 W → Tab W) := fun W h => HR.out.2.1.later (OV.out W h)
  have RV : Hid (∀ W, Below V1.heap.size V1 W → RdRow W (.slice ao n cap) n f) := fun W h => HR.out.1.later (OV.out W h)
  have SX : Hid (∀ W, Below V1.heap.size V1 W → Six W w.heap.size (.string s) (.int .i64 kd) (.int .i64 lo) (.int .i64 hi) (.slice ao n cap) (.float .f64 x)) := fun W h => HX.out.2.later (A3b.out.1.trans (h.mono A3b.out.1.size))
  have SB : Hid (∀ W, Below V1.heap.size V1 W → Sev W w3.heap.size (.int .i64 code) (.string S) (.int .i64 K) (.int .i64 L) (.int .i64 M) (.slice aoS N capS) (.float .f64 y) ∧ RdRow W (.slice aoS N capS) N f) := fun W h => ⟨A3b.out.2.1.later h, A3b.out.2.2.later h⟩
  go_wp2_with fail
  rw [← hV]
  clear hV
  refine (iMe_any (nm := nm) AV.out.2.2.1.rd (TV.out _ AV.out.1) hn2 HR.out.2.2.1 HR.out.2.2.2).mono ?_
  rintro e w5 ⟨hmm, b5⟩
  obtain ⟨kv, y', he, hk, hy⟩ := hmm.ex
  rw [← EQ.out.1] at he hk hy
  rw [← EQ.out.2.1, ← EQ.out.2.2.1, ← EQ.out.2.2.2.1, ← EQ.out.2.2.2.2.1] at he
  rw [← EQ.out.2.2.2.2.2.1] at hk
  rw [← EQ.out.2.2.2.2.2.2] at hy
  subst he
  obtain ⟨aoG, capG, rfl⟩ := hk.shape
  have A5 : Hid (Below V.heap.size V w5 ∧ Below V1.heap.size V1 w5 ∧ Fc y' O ∧ OwnK V.heap.size w5.heap.size w5 (.slice aoG N capG) N f) := ⟨b5, box_step AV.out.1 b5 (Nat.le_refl _), hy, hk⟩
  clear b5 hy hk hmm
  obtain ⟨V3, hV3⟩ : ∃ V, V = w5.alloc (.cells #[.int .i64 code, .string S, .int .i64 K, .int .i64 L, .int .i64 M, .slice aoG N capG, .float .f64 y'] 40) := ⟨_, rfl⟩
  have A6 : Hid (Below V.heap.size V V3 ∧ Below V1.heap.size V1 V3 ∧ Sev V3 w5.heap.size (.int .i64 code) (.string S) (.int .i64 K) (.int .i64 L) (.int .i64 M) (.slice aoG N capG) (.float .f64 y') ∧ OwnK V.heap.size w5.heap.size V3 (.slice aoG N capG) N f ∧ w5.heap.size < V3.heap.size ∧ V.heap.size ≤ w5.heap.size) := by
    have hB : Below w5.heap.size w5 V3 := by rw [hV3]; exact (Below.refl _ _).alloc (Nat.le_refl _) _
    have hz : w5.heap.size < V3.heap.size := by rw [hV3]; simp
    exact ⟨box_step A5.out.1 hB (Nat.le_refl _), box_step A5.out.2.1 hB (Nat.le_refl _), by rw [hV3]; exact sev_new _ _ _ _ _ _ _ _ _, A5.out.2.2.2.keep (Keep.of hB (Nat.le_refl _)), hz, A5.out.1.size⟩
  have q5 := (SB.out _ A5.out.2.1).1
  have d0 : ∀ o, (w5.alloc o).cell? ⟨w3.heap.size, 0, none⟩ = some (.int .i64 code) := fun o => alloc_keeps q5.c0
  have d1 : ∀ o, (w5.alloc o).cell? ⟨w3.heap.size, 1, none⟩ = some (.string S) := fun o => alloc_keeps q5.c1
  have d2 : ∀ o, (w5.alloc o).cell? ⟨w3.heap.size, 2, none⟩ = some (.int .i64 K) := fun o => alloc_keeps q5.c2
  have d3 : ∀ o, (w5.alloc o).cell? ⟨w3.heap.size, 3, none⟩ = some (.int .i64 L) := fun o => alloc_keeps q5.c3
  have d4 : ∀ o, (w5.alloc o).cell? ⟨w3.heap.size, 4, none⟩ = some (.int .i64 M) := fun o => alloc_keeps q5.c4
  have d5 : ∀ o, (w5.alloc o).cell? ⟨w3.heap.size, 5, none⟩ = some (.slice aoS N capS) := fun o => alloc_keeps q5.c5
  have d6 : ∀ o, (w5.alloc o).cell? ⟨w3.heap.size, 6, none⟩ = some (.float .f64 y) := fun o => alloc_keeps q5.c6
  have hne : ¬ w3.heap.size = w5.heap.size := by have := q5.lt; omega
  clear q5
  go_wp2_with fail
  rw [← hV3]
  clear hV3 d0 d1 d2 d3 d4 d5 d6 hne
  refine (eqR_any A6.out.2.2.2.1.rd (SB.out _ A6.out.2.1).2 (by omega) A5.out.2.2.1 A3.out.2.1).mono ?_
  rintro e w6 ⟨rfl, b6⟩
  have hR6 : Below V3.heap.size V3 w6 := b6
  clear b6
  have S3 : Hid (∀ W, Below V3.heap.size V3 W → Below V1.heap.size V1 W) := fun W h => box_step A6.out.2.1 h (Nat.le_refl _)
  have X3 : Hid (∀ W, Below V3.heap.size V3 W → Six W w4.heap.size (.string s) (.int .i64 kd) (.int .i64 lo) (.int .i64 hi) (.slice (some ⟨b, 0, none⟩) n n) (.float .f64 x) ∧ Seg W b 2 0 n (fun i => .int .i64 (f i))) := fun W h => by
    have hB : Below V.heap.size V W := box_step A6.out.1 h (Nat.le_refl _)
    exact ⟨AV.out.2.1.later hB, AV.out.2.2.1.of_block (hB.block _ AV.out.2.2.1.lt)⟩
  have z0 : ∀ W, Below V3.heap.size V3 W → W.cell? ⟨w.heap.size, 0, none⟩ = some (.string s) := fun _ h => (SX.out _ (S3.out _ h)).c0
  have z1 : ∀ W, Below V3.heap.size V3 W → W.cell? ⟨w.heap.size, 1, none⟩ = some (.int .i64 kd) := fun _ h => (SX.out _ (S3.out _ h)).c1
  have z2 : ∀ W, Below V3.heap.size V3 W → W.cell? ⟨w.heap.size, 2, none⟩ = some (.int .i64 lo) := fun _ h => (SX.out _ (S3.out _ h)).c2
  have z3 : ∀ W, Below V3.heap.size V3 W → W.cell? ⟨w.heap.size, 3, none⟩ = some (.int .i64 hi) := fun _ h => (SX.out _ (S3.out _ h)).c3
  have z4 : ∀ W, Below V3.heap.size V3 W → W.cell? ⟨w.heap.size, 4, none⟩ = some (.slice ao n cap) := fun _ h => (SX.out _ (S3.out _ h)).c4
  have z5 : ∀ W, Below V3.heap.size V3 W → W.cell? ⟨w.heap.size, 5, none⟩ = some (.float .f64 x) := fun _ h => (SX.out _ (S3.out _ h)).c5
  have y0 : ∀ W, Below V3.heap.size V3 W → W.cell? ⟨w4.heap.size, 0, none⟩ = some (.string s) := fun _ h => (X3.out _ h).1.c0
  have y1 : ∀ W, Below V3.heap.size V3 W → W.cell? ⟨w4.heap.size, 1, none⟩ = some (.int .i64 kd) := fun _ h => (X3.out _ h).1.c1
  have y2 : ∀ W, Below V3.heap.size V3 W → W.cell? ⟨w4.heap.size, 2, none⟩ = some (.int .i64 lo) := fun _ h => (X3.out _ h).1.c2
  have y3 : ∀ W, Below V3.heap.size V3 W → W.cell? ⟨w4.heap.size, 3, none⟩ = some (.int .i64 hi) := fun _ h => (X3.out _ h).1.c3
  have y4 : ∀ W, Below V3.heap.size V3 W → W.cell? ⟨w4.heap.size, 4, none⟩ = some (.slice (some ⟨b, 0, none⟩) n n) := fun _ h => (X3.out _ h).1.c4
  have y5 : ∀ W, Below V3.heap.size V3 W → W.cell? ⟨w4.heap.size, 5, none⟩ = some (.float .f64 x) := fun _ h => (X3.out _ h).1.c5
  go_wp2_with fail
  go_region_held (fun W => Below V3.heap.size V3 W) (with_reducible (first | assumption | exact Below.drew ‹_›))
    (first | (go_at_call 12; refine (toG_any (RV.out _ (S3.out _ (by with_reducible (first | assumption | exact Below.drew ‹_›)))) hn2).mono ?_; rintro e wA ⟨b6, rfl, sg6, hb6, b6'⟩; have hRA : Below V3.heap.size V3 wA := (by refine box_step ?_ b6' (Nat.le_refl _); with_reducible (first | assumption | exact Below.drew ‹_›)); have S6 : Hid (RdRow wA (.slice (some ⟨b6, 0, none⟩) n n) n f) := sg6.rd)
           | (go_at_call 14; refine (eqG_any (X3.out _ ?_).2.rd S6.out hn2 HR.out.2.2.1 HR.out.2.2.1 rfl).mono ?_; (with_reducible assumption); rintro e wB ⟨rfl, b7⟩; have hRB : Below V3.heap.size V3 wB := (by refine box_step ?_ b7 (Nat.le_refl _); with_reducible assumption)))
  all_goals
    have AB : Hid (Below V3.heap.size V3 wB) := hRB
    have x0 := y0 _ hRB
    have x1 := y1 _ hRB
    have x2 := y2 _ hRB
    have x3 := y3 _ hRB
    have x4 := y4 _ hRB
    have x5 := y5 _ hRB
    clear z0 z1 z2 z3 z4 z5 y0 y1 y2 y3 y4 y5 hRB b7
    have hsz : b + 1 ≤ wB.heap.size ∧ b + 1 ≤ V.heap.size ∧ V1.heap.size ≤ b := by
      have h1 := A4.out.2.2.1
      have h2 := AV.out.2.2.2
      have h3 := A6.out.1.size
      have h4 := AB.out.size
      exact ⟨by omega, by omega, A4.out.2.1⟩
    have HZ : Hid (b + 1 ≤ wB.heap.size ∧ b + 1 ≤ V.heap.size ∧ V1.heap.size ≤ b) := hsz
    clear hsz
    go_wp2_with fail
    refine (markG_any (lo := b) (hi := b + 1) (Or.inr ⟨b, n, rfl, Nat.le_refl _, Nat.lt_succ_self _, (X3.out _ AB.out).2⟩) HZ.out.1 (by have := HZ.out.1; omega) 1 (by omega) (by omega)).mono ?_
    rintro e w8 ⟨rfl, ho8, hw8⟩
    have A8 : Hid (Below V1.heap.size V1 w8 ∧ Sev w8 w5.heap.size (.int .i64 code) (.string S) (.int .i64 K) (.int .i64 L) (.int .i64 M) (.slice aoG N capG) (.float .f64 y') ∧ OwnK V.heap.size w5.heap.size w8 (.slice aoG N capG) N f ∧ w5.heap.size < w8.heap.size) := by
      have hq := HZ.out
      have h6 := A6.out.2.2.2.2
      have hs := AB.out.size
      refine ⟨(S3.out _ AB.out).trans (hw8.below.mono (by omega)), ?_, ?_, Nat.lt_of_lt_of_le (by omega) hw8.below.size⟩
      · exact (A6.out.2.2.1.later AB.out).of_block (hw8.above _ (by omega) (by omega))
      · exact (A6.out.2.2.2.1.keep (Keep.of AB.out (by omega))).keep (fun k h1 h2 => hw8.above k (by omega) (by omega))
    clear ho8 hw8 x0 x1 x2 x3 x4 x5
    obtain ⟨p0, p1, p2, p3, p4, p5, p6⟩ := A8.out.2.1
    obtain ⟨r0, r1, r2, r3, r4, r5, r6⟩ := (SB.out _ A8.out.1).1
    have hk1 : ¬ (1 + (n : Int) < 0) := by omega
    go_wp2_with fail
    refine (eqR_any A8.out.2.2.1.rd (SB.out _ A8.out.1).2 (by omega) A5.out.2.2.1 A3.out.2.1).mono ?_
    rintro e w9 ⟨rfl, b9⟩
    have A9 : Hid (Below V1.heap.size V1 w9 ∧ Sev w9 w5.heap.size (.int .i64 code) (.string S) (.int .i64 K) (.int .i64 L) (.int .i64 M) (.slice aoG N capG) (.float .f64 y') ∧ OwnK V.heap.size w5.heap.size w9 (.slice aoG N capG) N f ∧ w5.heap.size < w9.heap.size) :=
      ⟨box_step A8.out.1 b9 (Nat.le_refl _), A8.out.2.1.later b9, A8.out.2.2.1.keep (Keep.of b9 (Nat.le_of_lt A8.out.2.2.2)), Nat.lt_of_lt_of_le A8.out.2.2.2 b9.size⟩
    clear b9 p0 p1 p2 p3 p4 p5 p6 r0 r1 r2 r3 r4 r5 r6 hk1
    obtain ⟨p0, p1, p2, p3, p4, p5, p6⟩ := A9.out.2.1
    go_wp2_with fail
    refine (markR_any A9.out.2.2.1 (Nat.le_of_lt A9.out.2.2.2) (Nat.le_trans A6.out.2.2.2.2.2 (Nat.le_of_lt A9.out.2.2.2)) 1 (by omega) (by omega)).mono ?_
    rintro e w10 ⟨rfl, ho10, hw10⟩
    have A10 : Hid (Below V1.heap.size V1 w10 ∧ Sev w10 w5.heap.size (.int .i64 code) (.string S) (.int .i64 K) (.int .i64 L) (.int .i64 M) (.slice aoG N capG) (.float .f64 y') ∧ OwnK V.heap.size w5.heap.size w10 (.slice aoG N capG) N (fun i => 1 + i) ∧ w5.heap.size < w10.heap.size) := by
      have h9 := A9.out.2.2.2
      have hv := AV.out.1.size
      exact ⟨A9.out.1.trans (hw10.below.mono hv), A9.out.2.1.of_block (hw10.above _ (Nat.le_refl _) h9), ho10, Nat.lt_of_lt_of_le h9 hw10.below.size⟩
    clear ho10 hw10 p0 p1 p2 p3 p4 p5 p6
    obtain ⟨p0, p1, p2, p3, p4, p5, p6⟩ := A10.out.2.1
    go_wp2_with fail
    refine (heldR_any 1 A10.out.2.2.1 (Nat.le_of_lt A10.out.2.2.2) (by omega) (by omega)).mono ?_
    rintro e w11 ⟨rfl, b11⟩
    have A11 : Hid (Below V1.heap.size V1 w11 ∧ Below w10.heap.size w10 w11) := ⟨box_step A10.out.1 b11 (Nat.le_refl _), b11⟩
    clear b11 p0 p1 p2 p3 p4 p5 p6
    obtain ⟨c0, c1, c2, c3, c4, c5⟩ := SX.out _ A11.out.1
    have hk2 : ¬ (1 + (N : Int) < 0) := by omega
    go_wp2_with fail
    refine (toG_any (RV.out _ A11.out.1) hn2).mono ?_
    rintro e w12 ⟨bh, rfl, sg, hb, b12⟩
    have A12 : Hid (Below V1.heap.size V1 w12 ∧ Below w10.heap.size w10 w12 ∧ RdRow w12 (.slice (some ⟨bh, 0, none⟩) n n) n f) := ⟨box_step A11.out.1 b12 (Nat.le_refl _), box_step A11.out.2 b12 (Nat.le_refl _), sg.rd⟩
    clear sg hb b12 c0 c1 c2 c3 c4 c5
    go_wp2_with fail
    refine (iMe_any (nm := nm) A12.out.2.2 (TV.out _ A12.out.1) hn2 HR.out.2.2.1 HR.out.2.2.2).mono ?_
    rintro e w13 ⟨hmm, b13⟩
    obtain ⟨kv, yh, he, hk, hy⟩ := hmm.ex
    rw [← EQ.out.1] at he hk hy
    rw [← EQ.out.2.1, ← EQ.out.2.2.1, ← EQ.out.2.2.2.1, ← EQ.out.2.2.2.2.1] at he
    rw [← EQ.out.2.2.2.2.2.1] at hk
    rw [← EQ.out.2.2.2.2.2.2] at hy
    subst he
    obtain ⟨aoH, capH, rfl⟩ := hk.shape
    have A13 : Hid (Below V1.heap.size V1 w13 ∧ Below w10.heap.size w10 w13 ∧ Fc yh O ∧ RdRow w13 (.slice aoH N capH) N f) := ⟨box_step A12.out.1 b13 (Nat.le_refl _), box_step A12.out.2.1 b13 (Nat.le_refl _), hy, hk.rd⟩
    clear b13 hy hk hmm
    obtain ⟨V4, hV4⟩ : ∃ V, V = w13.alloc (.cells #[.int .i64 code, .string S, .int .i64 K, .int .i64 L, .int .i64 M, .slice aoH N capH, .float .f64 yh] 40) := ⟨_, rfl⟩
    have A14 : Hid (Below V1.heap.size V1 V4 ∧ Below w10.heap.size w10 V4 ∧ RdRow V4 (.slice aoH N capH) N f) := by
      have hB : Below w13.heap.size w13 V4 := by rw [hV4]; exact (Below.refl _ _).alloc (Nat.le_refl _) _
      exact ⟨box_step A13.out.1 hB (Nat.le_refl _), box_step A13.out.2.1 hB (Nat.le_refl _), A13.out.2.2.2.later hB⟩
    have q5 := (SB.out _ A13.out.1).1
    have d0 : ∀ o, (w13.alloc o).cell? ⟨w3.heap.size, 0, none⟩ = some (.int .i64 code) := fun o => alloc_keeps q5.c0
    have d1 : ∀ o, (w13.alloc o).cell? ⟨w3.heap.size, 1, none⟩ = some (.string S) := fun o => alloc_keeps q5.c1
    have d2 : ∀ o, (w13.alloc o).cell? ⟨w3.heap.size, 2, none⟩ = some (.int .i64 K) := fun o => alloc_keeps q5.c2
    have d3 : ∀ o, (w13.alloc o).cell? ⟨w3.heap.size, 3, none⟩ = some (.int .i64 L) := fun o => alloc_keeps q5.c3
    have d4 : ∀ o, (w13.alloc o).cell? ⟨w3.heap.size, 4, none⟩ = some (.int .i64 M) := fun o => alloc_keeps q5.c4
    have d5 : ∀ o, (w13.alloc o).cell? ⟨w3.heap.size, 5, none⟩ = some (.slice aoS N capS) := fun o => alloc_keeps q5.c5
    have d6 : ∀ o, (w13.alloc o).cell? ⟨w3.heap.size, 6, none⟩ = some (.float .f64 y) := fun o => alloc_keeps q5.c6
    have hne : ¬ w3.heap.size = w13.heap.size := by have := q5.lt; omega
    clear q5
    go_wp2_with fail
    rw [← hV4]
    clear hV4 d0 d1 d2 d3 d4 d5 d6 hne
    refine (eqR_any A14.out.2.2 (SB.out _ A14.out.1).2 (by omega) A13.out.2.2.1 A3.out.2.1).mono ?_
    rintro e w14 ⟨rfl, b14⟩
    have A15 : Hid (Below V1.heap.size V1 w14 ∧ Below w10.heap.size w10 w14) := ⟨box_step A14.out.1 b14 (Nat.le_refl _), box_step A14.out.2.1 b14 (Nat.le_refl _)⟩
    clear b14
    obtain ⟨p0, p1, p2, p3, p4, p5, p6⟩ := A10.out.2.1.later A15.out.2
    go_wp2_with fail
    refine (heldR_any 1 (A10.out.2.2.1.keep (Keep.of A15.out.2 (Nat.le_of_lt A10.out.2.2.2))) (Nat.le_trans (Nat.le_of_lt A10.out.2.2.2) A15.out.2.size) (by omega) (by omega)).mono ?_
    rintro e w15 ⟨rfl, b15⟩
    have HB : Hid (Below w.heap.size w w15) := OV.out _ (box_step A15.out.1 b15 (Nat.le_refl _))
    clear b15 p0 p1 p2 p3 p4 p5 p6
    go_wp2
    go_ret
    exact ⟨rfl, HB.out⟩
set_option maxRecDepth 100000 in
theorem lifted (os : Os) (started : os.Started) (H : Type) (enc : TypeId × Value → H) :
    ReturnsInHanded {} Tryd.checked os 7 .any (fun w args => (Rows.fnExactMeltOfSpec.pre enc Tryd.prog Tryd.f7 [] false w args ∧ laidMetH Tryd.prog laid1 w) ∧ sizedMet enc Tryd.prog Tryd.f7 (OpenSpec.ofChange Rows.fnExactMeltOfSpec) false w args)
      (Rows.fnExactMeltOfSpec.post enc Tryd.prog Tryd.f7 false true false false) := by
  refine returnsInHanded_of_change_and (C := Tryd.checked) (X := fun w _ => laidMetH Tryd.prog laid1 w) (fun _ _ _ hh h => h.of_heap hh) own started (by kernel_rfl) Tryd.func7
    (ChangeSpec.witness_shaped (enc := enc) (C := Tryd.checked) (os := os) (X := fun w _ => laidMetH Tryd.prog laid1 w) false (World.doorLaid Tryd.prog 400 os) #[.agg #[.string ⟨#[]⟩, .int .i64 0, .int .i64 0, .int .i64 0, .slice none 0 0, .float .f64 0], .int .i64 0, .float .f64 0] 8 rfl (World.shaped_of_RefB (by kernel_rfl) (by kernel_rfl)) (by kernel_rfl) (by kernel_rfl) (by kernel_rfl) (door_met os _)) ?_
  intro W base args ds gs before hval0 hW _ _ hL _
  have hval : ∀ (j : Nat) t v, Tryd.f7.params[j]? = some t → args[j]? = some v → Value.okWide Tryd.prog W .any base t v := hval0
  have hW' := hW
  obtain ⟨p, q, hA0, hV, rfl, hfz, hnd⟩ := hW
  have hA : DataW.TrodAll enc Tryd.prog W 0 (fun _ => true) true Tryd.f7.params.toList args.toList ds p := hA0
  rw [Tryd.params7] at hA hval
  obtain ⟨v0, vs0, d0, ds0, p0, q0, hargs0, rfl, rfl, h0, r0⟩ := trodAll_cons hA
  obtain ⟨v1, vs1, d1, ds1, p1, q1, hargs1, rfl, rfl, h1, r1⟩ := trodAll_cons r0
  obtain ⟨v2, vs2, d2, ds2, p2, q2, hargs2, rfl, rfl, h2, r2⟩ := trodAll_cons r1
  obtain ⟨rfl, rfl, rfl⟩ := trodAll_nil r2
  obtain rfl : args = #[v0, v1, v2] := by cases args; simp_all
  obtain ⟨gd, rfl⟩ : ∃ gd, gs = [gd] := by obtain ⟨_, _, _, _, d, _, e, _⟩ := trodVars_one hV; exact ⟨d, e⟩
  have k0 := h0
  have lt0 : ∀ x ∈ p0, x.block < W.heap.size := by obtain ⟨m, hm⟩ := k0; exact DataW.trod_lt m _ _ _ hm
  have k1 := h1
  have lt1 : ∀ x ∈ p1, x.block < W.heap.size := by obtain ⟨m, hm⟩ := k1; exact DataW.trod_lt m _ _ _ hm
  have k2 := h2
  have lt2 : ∀ x ∈ p2, x.block < W.heap.size := by obtain ⟨m, hm⟩ := k2; exact DataW.trod_lt m _ _ _ hm
  obtain ⟨s, kd, lo, hi, k, n, f, x, e0, R0, hs0, hn0, hx0⟩ := open_glass (hval 0 25 v0 rfl rfl) h0
  subst e0
  obtain ⟨nm, e1⟩ := okWide_int Tryd.underlying2 (hval 1 2 v1 rfl rfl)
  subst e1
  obtain ⟨yy, e2, hyy⟩ := open_float (hval 2 23 v2 rfl rfl) h2
  subst e2
  clear hA0 hval0
  refine (walk R0 hs0 hn0 hx0 hyy (tab_of hL)).mono fun e W' ⟨he, bel⟩ => ?_
  subst he
  exact ⟨_, rfl, _, _, _, [], _, _, hW', trodAll_mk1 (shut_bool Tryd.underlying4 _), (trodAll_cons_mk (Below.trod laidOut (by kernel_rfl) (of_decide_eq_true (by kernel_rfl)) k0 bel lt0) (trodAll_cons_mk (Below.trod laidOut (by kernel_rfl) (of_decide_eq_true (by kernel_rfl)) k1 bel lt1) (trodAll_cons_mk (Below.trod laidOut (by kernel_rfl) (of_decide_eq_true (by kernel_rfl)) k2 bel lt2) trodAll_mk0))), Below.trodVars laidOut bel (by kernel_rfl) hV, bel.frame _, fun h => by cases h⟩

theorem said : Rows.FnExactMeltOfSaid :=
  OpenClaim.holds_of_wide 7 Tryd.f7 rfl rfl rfl rfl rfl rfl rfl ⟨rfl, rfl, rfl, rfl, rfl⟩ rfl rfl rfl rfl rfl (by kernel_rfl) Tryd.func7 (by kernel_rfl)
    (of_decide_eq_true (by kernel_rfl)) (by unfold Func.isWrapper; first | (rw [if_pos (by decide +kernel)]; kernel_rfl) | (rw [if_neg (by decide +kernel)]; exact ⟨rfl, rfl⟩))
    (fun os started H enc _ => lifted os started H enc)
end Go.Proofs.YtndfncjoknibaaaDoor.LawMeltOf
namespace Go.Proofs.YtndfncjoknibaaaDoor
open Go.ChangeShapes Go.WideShapes Go.ChangeAt Go.RowKit Go.Joins
theorem meltOf_holds : Rows.FnExactMeltOfCardSaid :=
  Claim7.holds_tied_plain_at .later [] [.data] true (true, "da10ff261ccb0d50757e23721bf26fcbb1cf6d673d685000ff3250fb22adc995") false
    LawMeltOf.said (fun _ h => by cases h) (by kernel_rfl) (fun _ h => by cases h) fnExactMeltOf_row_tie rfl ⟨rfl, rfl⟩ (by kernel_rfl) rfl
    (fun f fn hf hfn => by
      obtain rfl : f = 7 := Option.some.inj ((show Tryd.prog.funcNamed "loop.example/g00049/laws.FnExactMeltOf" = some 7 by kernel_rfl).symm.trans hf) |>.symm
      obtain rfl : fn = Tryd.f7 := (Option.some.inj (Tryd.func7.symm.trans hfn)).symm
      exact ⟨by kernel_rfl, fun j t ht => by
        rw [Tryd.params7] at ht
        have hm : t ∈ [25, 2, 23] := by simpa using Array.mem_of_getElem? ht
        have hall : ([25, 2, 23].all fun u => !Tryd.prog.wantsStandIn u) = true := by kernel_rfl
        exact (show Tryd.prog.wantsStandIn t = false by simpa using List.all_eq_true.1 hall t hm)⟩)
    (by kernel_rfl)
#print axioms meltOf_holds
end Go.Proofs.YtndfncjoknibaaaDoor
