/- Trips: a mirror's power; the specification. -/
import Derived.Test.YtkkajcdjkfbcgaaCc
import Derived.Test.YtkkajcdjkfbcgaaCf
import Derived.Test.YtkkajcdjkfbcgaaPg
import Derived.Handy
namespace Go.Proofs.Ytkkajcdjkfbcgaa
open Go.RowKit
set_option linter.unusedVariables false
set_option linter.unusedSimpArgs false
def poK (R : Q) : Bool := if R.n = 0 then true else divK two R
def poQ (R : Q) : Q := if R.n = 0 then nil else divQ two R
theorem po_z {R : Q} (h : R.n = 0) : poK R = true ∧ poQ R = nil := by unfold poK poQ; rw [if_pos h, if_pos h]; exact ⟨rfl, rfl⟩
theorem po_n {R : Q} (h : ¬ R.n = 0) : poK R = divK two R ∧ poQ R = divQ two R := by unfold poK poQ; rw [if_neg h, if_neg h]; exact ⟨rfl, rfl⟩
theorem nil_ok' : nil.ok = true := by decide
theorem two_ok : two.ok = true := by decide
set_option maxRecDepth 20000 in
set_option maxHeartbeats 1600000 in
theorem spow_0 (R : Q) (w : World) (h0 : (R.n == 0) = true) : Calls Try.prog 75 #[.agg #[.int .i64 R.n, .int .i64 R.d]] w fun e w' => e = .returned (.agg #[.bool true, .int .i64 0, .int .i64 1]) ∧ Below w.heap.size w w' := by
  go_enter Try.func75, Try.ntmps75
  go_wp2_with fail
  refine (sint _ _).mono ?_
  rintro e w1 ⟨rfl, hb⟩
  have HO : Hid (Below w.heap.size w w1) := by refine box_step ?_ hb (by simp <;> omega); go_grown
  have X0 : Blk w1 (w.heap.size) #[.int .i64 R.n, .int .i64 R.d] 32 := Blk.old ((Blk.alloc (Blk.new (by simp)) _)) hb
  have K0 : Hid (w1.cell? ⟨w.heap.size, 0, none⟩ = some (.int .i64 R.n)) := X0.cell rfl
  have K1 : Hid (w1.cell? ⟨w.heap.size, 1, none⟩ = some (.int .i64 R.d)) := X0.cell rfl
  clear X0
  have RB : Hid (Blk w1 (w.heap.size + 1) #[.bool false, .int .i64 0, .int .i64 0] 98) := Blk.old (Blk.new (by simp)) hb
  clear hb
  have c0 := K0.out
  have c1 := K1.out
  have r0 := RB.out.cell (j := 0) rfl
  have r1 := RB.out.cell (j := 1) rfl
  have r2 := RB.out.cell (j := 2) rfl
  have rf := RB.out.frozen
  go_wp2_with fail
  refine (sof nil _).mono ?_
  rintro e w2 ⟨rfl, hb⟩
  clear c0 c1 r0 r1 r2 rf
  have HO : Hid (Below w.heap.size w w2) := by have h := HO.out; have hs := h.size; refine box_step ?_ hb (by first | exact hs | (simp <;> omega)); go_grown
  have RB : Hid (Blk w2 (w.heap.size + 1) #[.bool false, .int .i64 0, .int .i64 0] 98) := Blk.old (RB.out) hb
  have K2 : Hid (w2.cell? ⟨w.heap.size, 0, none⟩ = some (.int .i64 R.n)) := kold hb (K0.out)
  have K3 : Hid (w2.cell? ⟨w.heap.size, 1, none⟩ = some (.int .i64 R.d)) := kold hb (K1.out)
  clear K0 K1
  clear hb
  have r0 := RB.out.cell (j := 0) rfl
  have r1 := RB.out.cell (j := 1) rfl
  have r2 := RB.out.cell (j := 2) rfl
  have rf := RB.out.frozen
  go_wp2
  refine bodyPost_ret (v := .agg #[.bool true, .int .i64 0, .int .i64 1]) (by simp [results, Try.results75, go_sem, r0, r1, r2, World.cell?_alloc_lt, RB.out.lt] <;> (repeat' (first | rfl | apply And.intro))) rfl ⟨rfl, ?_⟩
  have h := HO.out
  have hlt := RB.out.lt
  have hsz := h.size
  go_grown
set_option maxRecDepth 20000 in
set_option maxHeartbeats 1600000 in
theorem spow_1 (R : Q) (w : World) (h0 : (R.n == 0) = false) : Calls Try.prog 75 #[.agg #[.int .i64 R.n, .int .i64 R.d]] w fun e w' => e = .returned (.agg #[.bool (divK two R), .int .i64 (divQ two R).n, .int .i64 (divQ two R).d]) ∧ Below w.heap.size w w' := by
  go_enter Try.func75, Try.ntmps75
  go_upto_region 3 with fail
  obtain ⟨w1, hX⟩ : ∃ X, X = ((w.alloc (.cells #[.int .i64 R.n, .int .i64 R.d] 32)).alloc (.cells #[.bool false, .int .i64 0, .int .i64 0] 98)) := ⟨_, rfl⟩
  rw [← hX]
  have HO : Hid (Below w.heap.size w w1) := by show Below w.heap.size w w1; rw [hX]; go_grown
  have K0 : Hid (w1.cell? ⟨w.heap.size, 0, none⟩ = some (.int .i64 R.n)) := by show w1.cell? ⟨w.heap.size, 0, none⟩ = some (.int .i64 R.n); rw [hX]; exact cell_old (cell_new (by simp) rfl)
  have K1 : Hid (w1.cell? ⟨w.heap.size, 1, none⟩ = some (.int .i64 R.d)) := by show w1.cell? ⟨w.heap.size, 1, none⟩ = some (.int .i64 R.d); rw [hX]; exact cell_old (cell_new (by simp) rfl)
  have RB : Hid (Blk w1 (w.heap.size + 1) #[.bool false, .int .i64 0, .int .i64 0] 98) := by show Blk w1 (w.heap.size + 1) #[.bool false, .int .i64 0, .int .i64 0] 98; rw [hX]; exact Blk.new (by simp)
  clear hX
  have h0 : Own (w.heap.size + 1) w1 (w.heap.size + 1) 3 98 w1 := ⟨Below.refl _ _, Nat.le_refl _, _, RB.out, rfl⟩
  have k0 : ∀ W, Own (w.heap.size + 1) w1 (w.heap.size + 1) 3 98 W → W.cell? ⟨w.heap.size, 0, none⟩ = some (.int .i64 R.n) := fun _ h => h.old (by simp <;> omega) K0.out
  have k1 : ∀ W, Own (w.heap.size + 1) w1 (w.heap.size + 1) 3 98 W → W.cell? ⟨w.heap.size, 1, none⟩ = some (.int .i64 R.d) := fun _ h => h.old (by simp <;> omega) K1.out
  have g0 : ∀ W, Own (w.heap.size + 1) w1 (w.heap.size + 1) 3 98 W → W.cell? ⟨w.heap.size + 1, 0, none⟩ = some (got W (w.heap.size + 1) 0) := fun _ h => h.cell (by omega)
  have g1 : ∀ W, Own (w.heap.size + 1) w1 (w.heap.size + 1) 3 98 W → W.cell? ⟨w.heap.size + 1, 1, none⟩ = some (got W (w.heap.size + 1) 1) := fun _ h => h.cell (by omega)
  have g2 : ∀ W, Own (w.heap.size + 1) w1 (w.heap.size + 1) 3 98 W → W.cell? ⟨w.heap.size + 1, 2, none⟩ = some (got W (w.heap.size + 1) 2) := fun _ h => h.cell (by omega)
  have gf : ∀ W j, Own (w.heap.size + 1) w1 (w.heap.size + 1) 3 98 W → W.frozen? ⟨w.heap.size + 1, j, none⟩ = false := fun _ j h => h.frozen j
  go_wp2_with fail
  go_region_held (fun W => Own (w.heap.size + 1) w1 (w.heap.size + 1) 3 98 W) (first | with_reducible assumption | with_reducible exact Own.drew ‹_› | with_reducible exact Own.drewN ‹_› _ | with_reducible exact Own.set (Own.set (Own.set ‹_› _ _) _ _) _ _) (first | (go_at_call 66; refine (sint _ _).mono ?_; rintro e w1 ⟨rfl, hb1⟩; have hR1 := Own.call ‹_› hb1) | (go_at_call 65; refine (sof two _).mono ?_; rintro e w1 ⟨rfl, hb1⟩; have hR1 := Own.call ‹_› hb1) | (go_at_call 106; refine (sdiv7_t two R _).mono ?_; rintro e w1 ⟨rfl, hb1⟩; have hR1 := Own.call ‹_› hb1))
  have c0 := g0 _ hR1
  have c1 := g1 _ hR1
  have c2 := g2 _ hR1
  clear k0 k1 g0 g1 g2 gf
  repeat go_step
  refine bodyPost_ret (v := .agg #[.bool (divK two R), .int .i64 (divQ two R).n, .int .i64 (divQ two R).d]) (by simp [results, Try.results75, go_sem, c0, c1, c2] <;> (repeat' (first | rfl | apply And.intro))) rfl ⟨rfl, ?_⟩
  exact Own.out (Own.set (Own.set (Own.set hR1 0 _) 1 _) 2 _) HO.out (by omega)
theorem spow (R : Q) (w : World) : Calls Try.prog 75 #[.agg #[.int .i64 R.n, .int .i64 R.d]] w fun e w' => e = .returned (.agg #[.bool (poK R), .int .i64 (poQ R).n, .int .i64 (poQ R).d]) ∧ Below w.heap.size w w' := by
  by_cases h : R.n = 0
  · rw [(po_z h).1, (po_z h).2]
    exact spow_0 R w (by simpa using h)
  · rw [(po_n h).1, (po_n h).2]
    exact spow_1 R w (by simpa using h)
theorem ipow (R : Q) (r : Nat) (b : Bool) (w : World) (h : flag r b w) (hR : R.ok = true) : Calls Try.prog 90 #[.agg #[.int .i64 R.n, .int .i64 R.d], .pointer (some ⟨r, 0, none⟩)] w fun e w' => e = .returned (.agg #[.int .i64 (poQ R).n, .int .i64 (poQ R).d]) ∧ But r w.heap.size w w' ∧ flag r (b || !poK R) w' := by
  by_cases hn : R.n = 0
  · rw [(po_z hn).1, (po_z hn).2, show (b || !true) = b by cases b <;> rfl]
    exact ipow_0 R r b w h hR hn
  · rw [(po_n hn).1, (po_n hn).2]
    exact ipow_1 R r b w h hn
/-- The four parts of a trip. -/
def trp (L a b : Q) : Nat → Pt
  | 0 => ⟨1, L⟩
  | 1 => ⟨2, b⟩
  | 2 => ⟨1, L⟩
  | _ => ⟨2, a⟩
def TX (fn : FuncId) (args : Array Value) (w : World) (c : Int) (m : Nat) (F : Nat → Pt) : Prop :=
  Calls Try.prog fn args w fun e w' => ∃ v, e = .returned (.agg #[.int .i64 c, v]) ∧ OwL w' w.heap.size v m F ∧ Below w.heap.size w w'
theorem trip_seg {L a b : Q} {w : World} {g : Nat} {cs : Array Value} (h : Blk w g cs 111) (e : cs = #[.int .i64 1, .int .i64 L.n, .int .i64 L.d, .int .i64 2, .int .i64 b.n, .int .i64 b.d, .int .i64 1, .int .i64 L.n, .int .i64 L.d, .int .i64 2, .int .i64 a.n, .int .i64 a.d]) : SegV w g 111 4 3 (fun i j => tcell (trp L a b i) j) := by
  refine ⟨cs, h, ?_⟩
  intro i hi j hj
  subst e
  rcases i with _ | _ | _ | _ | i <;> rcases j with _ | _ | _ | j <;> first | rfl | omega
set_option maxRecDepth 20000 in
set_option maxHeartbeats 3200000 in
theorem str_1 (L A B : Q) (w : World) (hc : cav L A B = false) : TX 22 #[.agg #[.int .i64 L.n, .int .i64 L.d], .agg #[.int .i64 A.n, .int .i64 A.d], .agg #[.int .i64 B.n, .int .i64 B.d]] w 1 0 (fun _ => ⟨0, ⟨0, 0⟩⟩) := by
  unfold TX
  go_enter Try.func22, Try.ntmps22
  go_wp2_with fail
  refine (scav L A B _).mono ?_
  rintro e w1 ⟨rfl, hb⟩
  have HO : Hid (Below w.heap.size w w1) := by refine box_step ?_ hb (by simp <;> omega); go_grown
  have X0 : Blk w1 (w.heap.size) #[.int .i64 L.n, .int .i64 L.d] 32 := Blk.old ((Blk.alloc (Blk.alloc (Blk.alloc (Blk.new (by simp)) _) _) _)) hb
  have K0 : Hid (w1.cell? ⟨w.heap.size, 0, none⟩ = some (.int .i64 L.n)) := X0.cell rfl
  have K1 : Hid (w1.cell? ⟨w.heap.size, 1, none⟩ = some (.int .i64 L.d)) := X0.cell rfl
  clear X0
  have X1 : Blk w1 (w.heap.size + 1) #[.int .i64 A.n, .int .i64 A.d] 32 := Blk.old ((Blk.alloc (Blk.alloc (Blk.new (by simp)) _) _)) hb
  have K2 : Hid (w1.cell? ⟨w.heap.size + 1, 0, none⟩ = some (.int .i64 A.n)) := X1.cell rfl
  have K3 : Hid (w1.cell? ⟨w.heap.size + 1, 1, none⟩ = some (.int .i64 A.d)) := X1.cell rfl
  clear X1
  have X2 : Blk w1 (w.heap.size + 1 + 1) #[.int .i64 B.n, .int .i64 B.d] 32 := Blk.old ((Blk.alloc (Blk.new (by simp)) _)) hb
  have K4 : Hid (w1.cell? ⟨w.heap.size + 1 + 1, 0, none⟩ = some (.int .i64 B.n)) := X2.cell rfl
  have K5 : Hid (w1.cell? ⟨w.heap.size + 1 + 1, 1, none⟩ = some (.int .i64 B.d)) := X2.cell rfl
  clear X2
  have RB : Hid (Blk w1 (w.heap.size + 1 + 1 + 1) #[.int .i64 0, .slice none 0 0] 41) := Blk.old (Blk.new (by simp)) hb
  clear hb
  have r0 := RB.out.cell (j := 0) rfl
  have r1 := RB.out.cell (j := 1) rfl
  have rf := RB.out.frozen
  go_wp2
  refine bodyPost_ret (v := .agg #[.int .i64 1, .slice none 0 0]) (by simp [results, Try.results22, go_sem, r0, r1, World.cell?_alloc_lt, RB.out.lt] <;> (repeat' (first | rfl | apply And.intro))) rfl ⟨_, rfl, Or.inl ⟨rfl, rfl⟩, ?_⟩
  have h := HO.out
  have hlt := RB.out.lt
  have hsz := h.size
  go_grown
set_option maxRecDepth 20000 in
set_option maxHeartbeats 3200000 in
theorem str_A (L A B a b : Q) (w : World) (kb : Bool) (SC : Hid (∀ W, Calls Try.prog 60 #[.agg #[.int .i64 L.n, .int .i64 L.d], .agg #[.int .i64 A.n, .int .i64 A.d], .agg #[.int .i64 B.n, .int .i64 B.d]] W fun e w' => e = .returned (.bool true) ∧ Below W.heap.size W w')) (SA : Hid (∀ W, Calls Try.prog 75 #[.agg #[.int .i64 A.n, .int .i64 A.d]] W fun e w' => e = .returned (.agg #[.bool false, .int .i64 a.n, .int .i64 a.d]) ∧ Below W.heap.size W w')) (SB : Hid (∀ W, Calls Try.prog 75 #[.agg #[.int .i64 B.n, .int .i64 B.d]] W fun e w' => e = .returned (.agg #[.bool kb, .int .i64 b.n, .int .i64 b.d]) ∧ Below W.heap.size W w')) : TX 22 #[.agg #[.int .i64 L.n, .int .i64 L.d], .agg #[.int .i64 A.n, .int .i64 A.d], .agg #[.int .i64 B.n, .int .i64 B.d]] w 3 0 (fun _ => ⟨0, ⟨0, 0⟩⟩) := by
  unfold TX
  go_enter Try.func22, Try.ntmps22
  go_wp2_with fail
  refine (SC.out _).mono ?_
  rintro e w1 ⟨rfl, hb⟩
  have HO : Hid (Below w.heap.size w w1) := by refine box_step ?_ hb (by simp <;> omega); go_grown
  have X0 : Blk w1 (w.heap.size) #[.int .i64 L.n, .int .i64 L.d] 32 := Blk.old ((Blk.alloc (Blk.alloc (Blk.alloc (Blk.new (by simp)) _) _) _)) hb
  have K0 : Hid (w1.cell? ⟨w.heap.size, 0, none⟩ = some (.int .i64 L.n)) := X0.cell rfl
  have K1 : Hid (w1.cell? ⟨w.heap.size, 1, none⟩ = some (.int .i64 L.d)) := X0.cell rfl
  clear X0
  have X1 : Blk w1 (w.heap.size + 1) #[.int .i64 A.n, .int .i64 A.d] 32 := Blk.old ((Blk.alloc (Blk.alloc (Blk.new (by simp)) _) _)) hb
  have K2 : Hid (w1.cell? ⟨w.heap.size + 1, 0, none⟩ = some (.int .i64 A.n)) := X1.cell rfl
  have K3 : Hid (w1.cell? ⟨w.heap.size + 1, 1, none⟩ = some (.int .i64 A.d)) := X1.cell rfl
  clear X1
  have X2 : Blk w1 (w.heap.size + 1 + 1) #[.int .i64 B.n, .int .i64 B.d] 32 := Blk.old ((Blk.alloc (Blk.new (by simp)) _)) hb
  have K4 : Hid (w1.cell? ⟨w.heap.size + 1 + 1, 0, none⟩ = some (.int .i64 B.n)) := X2.cell rfl
  have K5 : Hid (w1.cell? ⟨w.heap.size + 1 + 1, 1, none⟩ = some (.int .i64 B.d)) := X2.cell rfl
  clear X2
  have RB : Hid (Blk w1 (w.heap.size + 1 + 1 + 1) #[.int .i64 0, .slice none 0 0] 41) := Blk.old (Blk.new (by simp)) hb
  clear hb
  go_upto_region 3 with fail
  go_cut [7] (fun p wx => ∃ k : Nat, p = .pointer (some ⟨k, 0, none⟩) ∧ w1.heap.size ≤ k ∧ k < wx.heap.size ∧ Below w1.heap.size w1 wx ∧ wx.cell? ⟨k, 0, none⟩ = some (.bool false) ∧ wx.cell? ⟨k, 1, none⟩ = some (.int .i64 a.n) ∧ wx.cell? ⟨k, 2, none⟩ = some (.int .i64 a.d))
  case first =>
    have c2 := K2.out
    have c3 := K3.out
    go_wp2_with fail
    refine (SA.out _).mono ?_
    rintro e w1 ⟨rfl, hb⟩
    have hs := hb.size
    clear c2 c3
    go_wp2
    go_meet
    case rel =>
      refine ⟨_, rfl, ?_, ?_, ?_, ?_, ?_, ?_⟩
      · first | exact hs | omega
      · simp
      · go_grown
      · go_simp
      · go_simp
      · go_simp
  case rest =>
    obtain ⟨b2, rfl, hk1, hk2, hB, d0, d1, d2⟩ := hcut
    obtain ⟨w2, hv⟩ : ∃ v, v = wc := ⟨_, rfl⟩
    subst hv
    have HO : Hid (Below w.heap.size w w2) := box_step HO.out hB (by first | exact Nat.le_refl _ | exact HO.out.size)
    have RB : Hid (Blk w2 (w.heap.size + 1 + 1 + 1) #[.int .i64 0, .slice none 0 0] 41) := Blk.old RB.out hB
    have K6 : Hid (w2.cell? ⟨w.heap.size, 0, none⟩ = some (.int .i64 L.n)) := kold hB (K0.out)
    have K7 : Hid (w2.cell? ⟨w.heap.size, 1, none⟩ = some (.int .i64 L.d)) := kold hB (K1.out)
    have K8 : Hid (w2.cell? ⟨w.heap.size + 1, 0, none⟩ = some (.int .i64 A.n)) := kold hB (K2.out)
    have K9 : Hid (w2.cell? ⟨w.heap.size + 1, 1, none⟩ = some (.int .i64 A.d)) := kold hB (K3.out)
    have K10 : Hid (w2.cell? ⟨w.heap.size + 1 + 1, 0, none⟩ = some (.int .i64 B.n)) := kold hB (K4.out)
    have K11 : Hid (w2.cell? ⟨w.heap.size + 1 + 1, 1, none⟩ = some (.int .i64 B.d)) := kold hB (K5.out)
    clear K0 K1 K2 K3 K4 K5
    have K12 : Hid (w2.cell? ⟨b2, 0, none⟩ = some (.bool false)) := d0
    have K13 : Hid (w2.cell? ⟨b2, 1, none⟩ = some (.int .i64 a.n)) := d1
    have K14 : Hid (w2.cell? ⟨b2, 2, none⟩ = some (.int .i64 a.d)) := d2
    clear hB hk1 hk2 d0 d1 d2
    go_upto_region 4 with fail
    go_cut [8] (fun p wx => ∃ k : Nat, p = .pointer (some ⟨k, 0, none⟩) ∧ w2.heap.size ≤ k ∧ k < wx.heap.size ∧ Below w2.heap.size w2 wx ∧ wx.cell? ⟨k, 0, none⟩ = some (.bool kb) ∧ wx.cell? ⟨k, 1, none⟩ = some (.int .i64 b.n) ∧ wx.cell? ⟨k, 2, none⟩ = some (.int .i64 b.d))
    case first =>
      have c4 := K10.out
      have c5 := K11.out
      go_wp2_with fail
      refine (SB.out _).mono ?_
      rintro e w1 ⟨rfl, hb⟩
      have hs := hb.size
      clear c4 c5
      go_wp2
      go_meet
      case rel =>
        refine ⟨_, rfl, ?_, ?_, ?_, ?_, ?_, ?_⟩
        · first | exact hs | omega
        · simp
        · go_grown
        · go_simp
        · go_simp
        · go_simp
    case rest =>
      obtain ⟨b3, rfl, hk1, hk2, hB, d0, d1, d2⟩ := hcut
      obtain ⟨w3, hv⟩ : ∃ v, v = wc := ⟨_, rfl⟩
      subst hv
      have HO : Hid (Below w.heap.size w w3) := box_step HO.out hB (by first | exact Nat.le_refl _ | exact HO.out.size)
      have RB : Hid (Blk w3 (w.heap.size + 1 + 1 + 1) #[.int .i64 0, .slice none 0 0] 41) := Blk.old RB.out hB
      have K15 : Hid (w3.cell? ⟨w.heap.size, 0, none⟩ = some (.int .i64 L.n)) := kold hB (K6.out)
      have K16 : Hid (w3.cell? ⟨w.heap.size, 1, none⟩ = some (.int .i64 L.d)) := kold hB (K7.out)
      have K17 : Hid (w3.cell? ⟨w.heap.size + 1, 0, none⟩ = some (.int .i64 A.n)) := kold hB (K8.out)
      have K18 : Hid (w3.cell? ⟨w.heap.size + 1, 1, none⟩ = some (.int .i64 A.d)) := kold hB (K9.out)
      have K19 : Hid (w3.cell? ⟨w.heap.size + 1 + 1, 0, none⟩ = some (.int .i64 B.n)) := kold hB (K10.out)
      have K20 : Hid (w3.cell? ⟨w.heap.size + 1 + 1, 1, none⟩ = some (.int .i64 B.d)) := kold hB (K11.out)
      have K21 : Hid (w3.cell? ⟨b2, 0, none⟩ = some (.bool false)) := kold hB (K12.out)
      have K22 : Hid (w3.cell? ⟨b2, 1, none⟩ = some (.int .i64 a.n)) := kold hB (K13.out)
      have K23 : Hid (w3.cell? ⟨b2, 2, none⟩ = some (.int .i64 a.d)) := kold hB (K14.out)
      clear K6 K7 K8 K9 K10 K11 K12 K13 K14
      have K24 : Hid (w3.cell? ⟨b3, 0, none⟩ = some (.bool kb)) := d0
      have K25 : Hid (w3.cell? ⟨b3, 1, none⟩ = some (.int .i64 b.n)) := d1
      have K26 : Hid (w3.cell? ⟨b3, 2, none⟩ = some (.int .i64 b.d)) := d2
      clear hB hk1 hk2 d0 d1 d2
      have c6 := K21.out
      have c7 := K22.out
      have c8 := K23.out
      have c9 := K24.out
      have c10 := K25.out
      have c11 := K26.out
      have r0 := RB.out.cell (j := 0) rfl
      have r1 := RB.out.cell (j := 1) rfl
      have rf := RB.out.frozen
      go_wp2
      refine bodyPost_ret (v := .agg #[.int .i64 3, .slice none 0 0]) (by simp [results, Try.results22, go_sem, r0, r1, World.cell?_alloc_lt, RB.out.lt] <;> (repeat' (first | rfl | apply And.intro))) rfl ⟨_, rfl, Or.inl ⟨rfl, rfl⟩, ?_⟩
      have h := HO.out
      have hlt := RB.out.lt
      have hsz := h.size
      go_grown
set_option maxRecDepth 20000 in
set_option maxHeartbeats 3200000 in
theorem str_B (L A B a b : Q) (w : World) (SC : Hid (∀ W, Calls Try.prog 60 #[.agg #[.int .i64 L.n, .int .i64 L.d], .agg #[.int .i64 A.n, .int .i64 A.d], .agg #[.int .i64 B.n, .int .i64 B.d]] W fun e w' => e = .returned (.bool true) ∧ Below W.heap.size W w')) (SA : Hid (∀ W, Calls Try.prog 75 #[.agg #[.int .i64 A.n, .int .i64 A.d]] W fun e w' => e = .returned (.agg #[.bool true, .int .i64 a.n, .int .i64 a.d]) ∧ Below W.heap.size W w')) (SB : Hid (∀ W, Calls Try.prog 75 #[.agg #[.int .i64 B.n, .int .i64 B.d]] W fun e w' => e = .returned (.agg #[.bool false, .int .i64 b.n, .int .i64 b.d]) ∧ Below W.heap.size W w')) : TX 22 #[.agg #[.int .i64 L.n, .int .i64 L.d], .agg #[.int .i64 A.n, .int .i64 A.d], .agg #[.int .i64 B.n, .int .i64 B.d]] w 3 0 (fun _ => ⟨0, ⟨0, 0⟩⟩) := by
  unfold TX
  go_enter Try.func22, Try.ntmps22
  go_wp2_with fail
  refine (SC.out _).mono ?_
  rintro e w1 ⟨rfl, hb⟩
  have HO : Hid (Below w.heap.size w w1) := by refine box_step ?_ hb (by simp <;> omega); go_grown
  have X0 : Blk w1 (w.heap.size) #[.int .i64 L.n, .int .i64 L.d] 32 := Blk.old ((Blk.alloc (Blk.alloc (Blk.alloc (Blk.new (by simp)) _) _) _)) hb
  have K0 : Hid (w1.cell? ⟨w.heap.size, 0, none⟩ = some (.int .i64 L.n)) := X0.cell rfl
  have K1 : Hid (w1.cell? ⟨w.heap.size, 1, none⟩ = some (.int .i64 L.d)) := X0.cell rfl
  clear X0
  have X1 : Blk w1 (w.heap.size + 1) #[.int .i64 A.n, .int .i64 A.d] 32 := Blk.old ((Blk.alloc (Blk.alloc (Blk.new (by simp)) _) _)) hb
  have K2 : Hid (w1.cell? ⟨w.heap.size + 1, 0, none⟩ = some (.int .i64 A.n)) := X1.cell rfl
  have K3 : Hid (w1.cell? ⟨w.heap.size + 1, 1, none⟩ = some (.int .i64 A.d)) := X1.cell rfl
  clear X1
  have X2 : Blk w1 (w.heap.size + 1 + 1) #[.int .i64 B.n, .int .i64 B.d] 32 := Blk.old ((Blk.alloc (Blk.new (by simp)) _)) hb
  have K4 : Hid (w1.cell? ⟨w.heap.size + 1 + 1, 0, none⟩ = some (.int .i64 B.n)) := X2.cell rfl
  have K5 : Hid (w1.cell? ⟨w.heap.size + 1 + 1, 1, none⟩ = some (.int .i64 B.d)) := X2.cell rfl
  clear X2
  have RB : Hid (Blk w1 (w.heap.size + 1 + 1 + 1) #[.int .i64 0, .slice none 0 0] 41) := Blk.old (Blk.new (by simp)) hb
  clear hb
  go_upto_region 3 with fail
  go_cut [7] (fun p wx => ∃ k : Nat, p = .pointer (some ⟨k, 0, none⟩) ∧ w1.heap.size ≤ k ∧ k < wx.heap.size ∧ Below w1.heap.size w1 wx ∧ wx.cell? ⟨k, 0, none⟩ = some (.bool true) ∧ wx.cell? ⟨k, 1, none⟩ = some (.int .i64 a.n) ∧ wx.cell? ⟨k, 2, none⟩ = some (.int .i64 a.d))
  case first =>
    have c2 := K2.out
    have c3 := K3.out
    go_wp2_with fail
    refine (SA.out _).mono ?_
    rintro e w1 ⟨rfl, hb⟩
    have hs := hb.size
    clear c2 c3
    go_wp2
    go_meet
    case rel =>
      refine ⟨_, rfl, ?_, ?_, ?_, ?_, ?_, ?_⟩
      · first | exact hs | omega
      · simp
      · go_grown
      · go_simp
      · go_simp
      · go_simp
  case rest =>
    obtain ⟨b2, rfl, hk1, hk2, hB, d0, d1, d2⟩ := hcut
    obtain ⟨w2, hv⟩ : ∃ v, v = wc := ⟨_, rfl⟩
    subst hv
    have HO : Hid (Below w.heap.size w w2) := box_step HO.out hB (by first | exact Nat.le_refl _ | exact HO.out.size)
    have RB : Hid (Blk w2 (w.heap.size + 1 + 1 + 1) #[.int .i64 0, .slice none 0 0] 41) := Blk.old RB.out hB
    have K6 : Hid (w2.cell? ⟨w.heap.size, 0, none⟩ = some (.int .i64 L.n)) := kold hB (K0.out)
    have K7 : Hid (w2.cell? ⟨w.heap.size, 1, none⟩ = some (.int .i64 L.d)) := kold hB (K1.out)
    have K8 : Hid (w2.cell? ⟨w.heap.size + 1, 0, none⟩ = some (.int .i64 A.n)) := kold hB (K2.out)
    have K9 : Hid (w2.cell? ⟨w.heap.size + 1, 1, none⟩ = some (.int .i64 A.d)) := kold hB (K3.out)
    have K10 : Hid (w2.cell? ⟨w.heap.size + 1 + 1, 0, none⟩ = some (.int .i64 B.n)) := kold hB (K4.out)
    have K11 : Hid (w2.cell? ⟨w.heap.size + 1 + 1, 1, none⟩ = some (.int .i64 B.d)) := kold hB (K5.out)
    clear K0 K1 K2 K3 K4 K5
    have K12 : Hid (w2.cell? ⟨b2, 0, none⟩ = some (.bool true)) := d0
    have K13 : Hid (w2.cell? ⟨b2, 1, none⟩ = some (.int .i64 a.n)) := d1
    have K14 : Hid (w2.cell? ⟨b2, 2, none⟩ = some (.int .i64 a.d)) := d2
    clear hB hk1 hk2 d0 d1 d2
    go_upto_region 4 with fail
    go_cut [8] (fun p wx => ∃ k : Nat, p = .pointer (some ⟨k, 0, none⟩) ∧ w2.heap.size ≤ k ∧ k < wx.heap.size ∧ Below w2.heap.size w2 wx ∧ wx.cell? ⟨k, 0, none⟩ = some (.bool false) ∧ wx.cell? ⟨k, 1, none⟩ = some (.int .i64 b.n) ∧ wx.cell? ⟨k, 2, none⟩ = some (.int .i64 b.d))
    case first =>
      have c4 := K10.out
      have c5 := K11.out
      go_wp2_with fail
      refine (SB.out _).mono ?_
      rintro e w1 ⟨rfl, hb⟩
      have hs := hb.size
      clear c4 c5
      go_wp2
      go_meet
      case rel =>
        refine ⟨_, rfl, ?_, ?_, ?_, ?_, ?_, ?_⟩
        · first | exact hs | omega
        · simp
        · go_grown
        · go_simp
        · go_simp
        · go_simp
    case rest =>
      obtain ⟨b3, rfl, hk1, hk2, hB, d0, d1, d2⟩ := hcut
      obtain ⟨w3, hv⟩ : ∃ v, v = wc := ⟨_, rfl⟩
      subst hv
      have HO : Hid (Below w.heap.size w w3) := box_step HO.out hB (by first | exact Nat.le_refl _ | exact HO.out.size)
      have RB : Hid (Blk w3 (w.heap.size + 1 + 1 + 1) #[.int .i64 0, .slice none 0 0] 41) := Blk.old RB.out hB
      have K15 : Hid (w3.cell? ⟨w.heap.size, 0, none⟩ = some (.int .i64 L.n)) := kold hB (K6.out)
      have K16 : Hid (w3.cell? ⟨w.heap.size, 1, none⟩ = some (.int .i64 L.d)) := kold hB (K7.out)
      have K17 : Hid (w3.cell? ⟨w.heap.size + 1, 0, none⟩ = some (.int .i64 A.n)) := kold hB (K8.out)
      have K18 : Hid (w3.cell? ⟨w.heap.size + 1, 1, none⟩ = some (.int .i64 A.d)) := kold hB (K9.out)
      have K19 : Hid (w3.cell? ⟨w.heap.size + 1 + 1, 0, none⟩ = some (.int .i64 B.n)) := kold hB (K10.out)
      have K20 : Hid (w3.cell? ⟨w.heap.size + 1 + 1, 1, none⟩ = some (.int .i64 B.d)) := kold hB (K11.out)
      have K21 : Hid (w3.cell? ⟨b2, 0, none⟩ = some (.bool true)) := kold hB (K12.out)
      have K22 : Hid (w3.cell? ⟨b2, 1, none⟩ = some (.int .i64 a.n)) := kold hB (K13.out)
      have K23 : Hid (w3.cell? ⟨b2, 2, none⟩ = some (.int .i64 a.d)) := kold hB (K14.out)
      clear K6 K7 K8 K9 K10 K11 K12 K13 K14
      have K24 : Hid (w3.cell? ⟨b3, 0, none⟩ = some (.bool false)) := d0
      have K25 : Hid (w3.cell? ⟨b3, 1, none⟩ = some (.int .i64 b.n)) := d1
      have K26 : Hid (w3.cell? ⟨b3, 2, none⟩ = some (.int .i64 b.d)) := d2
      clear hB hk1 hk2 d0 d1 d2
      have c6 := K21.out
      have c7 := K22.out
      have c8 := K23.out
      have c9 := K24.out
      have c10 := K25.out
      have c11 := K26.out
      have r0 := RB.out.cell (j := 0) rfl
      have r1 := RB.out.cell (j := 1) rfl
      have rf := RB.out.frozen
      go_wp2
      refine bodyPost_ret (v := .agg #[.int .i64 3, .slice none 0 0]) (by simp [results, Try.results22, go_sem, r0, r1, World.cell?_alloc_lt, RB.out.lt] <;> (repeat' (first | rfl | apply And.intro))) rfl ⟨_, rfl, Or.inl ⟨rfl, rfl⟩, ?_⟩
      have h := HO.out
      have hlt := RB.out.lt
      have hsz := h.size
      go_grown
set_option maxRecDepth 20000 in
set_option maxHeartbeats 3200000 in
theorem str_G (L A B a b : Q) (w : World) (SC : Hid (∀ W, Calls Try.prog 60 #[.agg #[.int .i64 L.n, .int .i64 L.d], .agg #[.int .i64 A.n, .int .i64 A.d], .agg #[.int .i64 B.n, .int .i64 B.d]] W fun e w' => e = .returned (.bool true) ∧ Below W.heap.size W w')) (SA : Hid (∀ W, Calls Try.prog 75 #[.agg #[.int .i64 A.n, .int .i64 A.d]] W fun e w' => e = .returned (.agg #[.bool true, .int .i64 a.n, .int .i64 a.d]) ∧ Below W.heap.size W w')) (SB : Hid (∀ W, Calls Try.prog 75 #[.agg #[.int .i64 B.n, .int .i64 B.d]] W fun e w' => e = .returned (.agg #[.bool true, .int .i64 b.n, .int .i64 b.d]) ∧ Below W.heap.size W w')) : TX 22 #[.agg #[.int .i64 L.n, .int .i64 L.d], .agg #[.int .i64 A.n, .int .i64 A.d], .agg #[.int .i64 B.n, .int .i64 B.d]] w 0 4 (trp L a b) := by
  unfold TX
  go_enter Try.func22, Try.ntmps22
  go_wp2_with fail
  refine (SC.out _).mono ?_
  rintro e w1 ⟨rfl, hb⟩
  have HO : Hid (Below w.heap.size w w1) := by refine box_step ?_ hb (by simp <;> omega); go_grown
  have X0 : Blk w1 (w.heap.size) #[.int .i64 L.n, .int .i64 L.d] 32 := Blk.old ((Blk.alloc (Blk.alloc (Blk.alloc (Blk.new (by simp)) _) _) _)) hb
  have K0 : Hid (w1.cell? ⟨w.heap.size, 0, none⟩ = some (.int .i64 L.n)) := X0.cell rfl
  have K1 : Hid (w1.cell? ⟨w.heap.size, 1, none⟩ = some (.int .i64 L.d)) := X0.cell rfl
  clear X0
  have X1 : Blk w1 (w.heap.size + 1) #[.int .i64 A.n, .int .i64 A.d] 32 := Blk.old ((Blk.alloc (Blk.alloc (Blk.new (by simp)) _) _)) hb
  have K2 : Hid (w1.cell? ⟨w.heap.size + 1, 0, none⟩ = some (.int .i64 A.n)) := X1.cell rfl
  have K3 : Hid (w1.cell? ⟨w.heap.size + 1, 1, none⟩ = some (.int .i64 A.d)) := X1.cell rfl
  clear X1
  have X2 : Blk w1 (w.heap.size + 1 + 1) #[.int .i64 B.n, .int .i64 B.d] 32 := Blk.old ((Blk.alloc (Blk.new (by simp)) _)) hb
  have K4 : Hid (w1.cell? ⟨w.heap.size + 1 + 1, 0, none⟩ = some (.int .i64 B.n)) := X2.cell rfl
  have K5 : Hid (w1.cell? ⟨w.heap.size + 1 + 1, 1, none⟩ = some (.int .i64 B.d)) := X2.cell rfl
  clear X2
  have RB : Hid (Blk w1 (w.heap.size + 1 + 1 + 1) #[.int .i64 0, .slice none 0 0] 41) := Blk.old (Blk.new (by simp)) hb
  clear hb
  go_upto_region 3 with fail
  go_cut [7] (fun p wx => ∃ k : Nat, p = .pointer (some ⟨k, 0, none⟩) ∧ w1.heap.size ≤ k ∧ k < wx.heap.size ∧ Below w1.heap.size w1 wx ∧ wx.cell? ⟨k, 0, none⟩ = some (.bool true) ∧ wx.cell? ⟨k, 1, none⟩ = some (.int .i64 a.n) ∧ wx.cell? ⟨k, 2, none⟩ = some (.int .i64 a.d))
  case first =>
    have c2 := K2.out
    have c3 := K3.out
    go_wp2_with fail
    refine (SA.out _).mono ?_
    rintro e w1 ⟨rfl, hb⟩
    have hs := hb.size
    clear c2 c3
    go_wp2
    go_meet
    case rel =>
      refine ⟨_, rfl, ?_, ?_, ?_, ?_, ?_, ?_⟩
      · first | exact hs | omega
      · simp
      · go_grown
      · go_simp
      · go_simp
      · go_simp
  case rest =>
    obtain ⟨b2, rfl, hk1, hk2, hB, d0, d1, d2⟩ := hcut
    obtain ⟨w2, hv⟩ : ∃ v, v = wc := ⟨_, rfl⟩
    subst hv
    have HO : Hid (Below w.heap.size w w2) := box_step HO.out hB (by first | exact Nat.le_refl _ | exact HO.out.size)
    have RB : Hid (Blk w2 (w.heap.size + 1 + 1 + 1) #[.int .i64 0, .slice none 0 0] 41) := Blk.old RB.out hB
    have K6 : Hid (w2.cell? ⟨w.heap.size, 0, none⟩ = some (.int .i64 L.n)) := kold hB (K0.out)
    have K7 : Hid (w2.cell? ⟨w.heap.size, 1, none⟩ = some (.int .i64 L.d)) := kold hB (K1.out)
    have K8 : Hid (w2.cell? ⟨w.heap.size + 1, 0, none⟩ = some (.int .i64 A.n)) := kold hB (K2.out)
    have K9 : Hid (w2.cell? ⟨w.heap.size + 1, 1, none⟩ = some (.int .i64 A.d)) := kold hB (K3.out)
    have K10 : Hid (w2.cell? ⟨w.heap.size + 1 + 1, 0, none⟩ = some (.int .i64 B.n)) := kold hB (K4.out)
    have K11 : Hid (w2.cell? ⟨w.heap.size + 1 + 1, 1, none⟩ = some (.int .i64 B.d)) := kold hB (K5.out)
    clear K0 K1 K2 K3 K4 K5
    have K12 : Hid (w2.cell? ⟨b2, 0, none⟩ = some (.bool true)) := d0
    have K13 : Hid (w2.cell? ⟨b2, 1, none⟩ = some (.int .i64 a.n)) := d1
    have K14 : Hid (w2.cell? ⟨b2, 2, none⟩ = some (.int .i64 a.d)) := d2
    clear hB hk1 hk2 d0 d1 d2
    go_upto_region 4 with fail
    go_cut [8] (fun p wx => ∃ k : Nat, p = .pointer (some ⟨k, 0, none⟩) ∧ w2.heap.size ≤ k ∧ k < wx.heap.size ∧ Below w2.heap.size w2 wx ∧ wx.cell? ⟨k, 0, none⟩ = some (.bool true) ∧ wx.cell? ⟨k, 1, none⟩ = some (.int .i64 b.n) ∧ wx.cell? ⟨k, 2, none⟩ = some (.int .i64 b.d))
    case first =>
      have c4 := K10.out
      have c5 := K11.out
      go_wp2_with fail
      refine (SB.out _).mono ?_
      rintro e w1 ⟨rfl, hb⟩
      have hs := hb.size
      clear c4 c5
      go_wp2
      go_meet
      case rel =>
        refine ⟨_, rfl, ?_, ?_, ?_, ?_, ?_, ?_⟩
        · first | exact hs | omega
        · simp
        · go_grown
        · go_simp
        · go_simp
        · go_simp
    case rest =>
      obtain ⟨b3, rfl, hk1, hk2, hB, d0, d1, d2⟩ := hcut
      obtain ⟨w3, hv⟩ : ∃ v, v = wc := ⟨_, rfl⟩
      subst hv
      have HO : Hid (Below w.heap.size w w3) := box_step HO.out hB (by first | exact Nat.le_refl _ | exact HO.out.size)
      have RB : Hid (Blk w3 (w.heap.size + 1 + 1 + 1) #[.int .i64 0, .slice none 0 0] 41) := Blk.old RB.out hB
      have K15 : Hid (w3.cell? ⟨w.heap.size, 0, none⟩ = some (.int .i64 L.n)) := kold hB (K6.out)
      have K16 : Hid (w3.cell? ⟨w.heap.size, 1, none⟩ = some (.int .i64 L.d)) := kold hB (K7.out)
      have K17 : Hid (w3.cell? ⟨w.heap.size + 1, 0, none⟩ = some (.int .i64 A.n)) := kold hB (K8.out)
      have K18 : Hid (w3.cell? ⟨w.heap.size + 1, 1, none⟩ = some (.int .i64 A.d)) := kold hB (K9.out)
      have K19 : Hid (w3.cell? ⟨w.heap.size + 1 + 1, 0, none⟩ = some (.int .i64 B.n)) := kold hB (K10.out)
      have K20 : Hid (w3.cell? ⟨w.heap.size + 1 + 1, 1, none⟩ = some (.int .i64 B.d)) := kold hB (K11.out)
      have K21 : Hid (w3.cell? ⟨b2, 0, none⟩ = some (.bool true)) := kold hB (K12.out)
      have K22 : Hid (w3.cell? ⟨b2, 1, none⟩ = some (.int .i64 a.n)) := kold hB (K13.out)
      have K23 : Hid (w3.cell? ⟨b2, 2, none⟩ = some (.int .i64 a.d)) := kold hB (K14.out)
      clear K6 K7 K8 K9 K10 K11 K12 K13 K14
      have K24 : Hid (w3.cell? ⟨b3, 0, none⟩ = some (.bool true)) := d0
      have K25 : Hid (w3.cell? ⟨b3, 1, none⟩ = some (.int .i64 b.n)) := d1
      have K26 : Hid (w3.cell? ⟨b3, 2, none⟩ = some (.int .i64 b.d)) := d2
      clear hB hk1 hk2 d0 d1 d2
      have c0 := K15.out
      have c1 := K16.out
      have c6 := K21.out
      have c7 := K22.out
      have c8 := K23.out
      have c9 := K24.out
      have c10 := K25.out
      have c11 := K26.out
      have r0 := RB.out.cell (j := 0) rfl
      have r1 := RB.out.cell (j := 1) rfl
      have rf := RB.out.frozen
      go_upto_region 8 with fail
      obtain ⟨u4, hu⟩ : ∃ W, W = w3.alloc (.cells #[.int .i64 1, .int .i64 L.n, .int .i64 L.d] 111) := ⟨_, rfl⟩
      have hb : Below w3.heap.size w3 u4 := by rw [hu]; exact (Below.refl _ _).alloc (Nat.le_refl _) _
      have HO : Hid (Below w.heap.size w u4) := HO.out.trans (hb.mono HO.out.size)
      have RB : Hid (Blk u4 (w.heap.size + 1 + 1 + 1) #[.int .i64 0, .slice none 0 0] 41) := Blk.old RB.out hb
      have K27 : Hid (u4.cell? ⟨w.heap.size, 0, none⟩ = some (.int .i64 L.n)) := kold hb K15.out
      have K28 : Hid (u4.cell? ⟨w.heap.size, 1, none⟩ = some (.int .i64 L.d)) := kold hb K16.out
      have K29 : Hid (u4.cell? ⟨w.heap.size + 1, 0, none⟩ = some (.int .i64 A.n)) := kold hb K17.out
      have K30 : Hid (u4.cell? ⟨w.heap.size + 1, 1, none⟩ = some (.int .i64 A.d)) := kold hb K18.out
      have K31 : Hid (u4.cell? ⟨w.heap.size + 1 + 1, 0, none⟩ = some (.int .i64 B.n)) := kold hb K19.out
      have K32 : Hid (u4.cell? ⟨w.heap.size + 1 + 1, 1, none⟩ = some (.int .i64 B.d)) := kold hb K20.out
      have K33 : Hid (u4.cell? ⟨b2, 0, none⟩ = some (.bool true)) := kold hb K21.out
      have K34 : Hid (u4.cell? ⟨b2, 1, none⟩ = some (.int .i64 a.n)) := kold hb K22.out
      have K35 : Hid (u4.cell? ⟨b2, 2, none⟩ = some (.int .i64 a.d)) := kold hb K23.out
      have K36 : Hid (u4.cell? ⟨b3, 0, none⟩ = some (.bool true)) := kold hb K24.out
      have K37 : Hid (u4.cell? ⟨b3, 1, none⟩ = some (.int .i64 b.n)) := kold hb K25.out
      have K38 : Hid (u4.cell? ⟨b3, 2, none⟩ = some (.int .i64 b.d)) := kold hb K26.out
      have PB : Blk u4 (w3.heap.size) #[.int .i64 1, .int .i64 L.n, .int .i64 L.d] 111 := by rw [hu]; exact Blk.new rfl
      have K39 : Hid (u4.cell? ⟨w3.heap.size, 0, none⟩ = some (.int .i64 1)) := PB.cell (j := 0) rfl
      have K40 : Hid (u4.cell? ⟨w3.heap.size, 1, none⟩ = some (.int .i64 L.n)) := PB.cell (j := 1) rfl
      have K41 : Hid (u4.cell? ⟨w3.heap.size, 2, none⟩ = some (.int .i64 L.d)) := PB.cell (j := 2) rfl
      rw [← hu]
      clear hu hb PB K15 K16 K17 K18 K19 K20 K21 K22 K23 K24 K25 K26
      have c0 := K27.out
      have c1 := K28.out
      have c2 := K29.out
      have c3 := K30.out
      have c4 := K31.out
      have c5 := K32.out
      have c6 := K33.out
      have c7 := K34.out
      have c8 := K35.out
      have c9 := K36.out
      have c10 := K37.out
      have c11 := K38.out
      have c12 := K39.out
      have c13 := K40.out
      have c14 := K41.out
      have r0 := RB.out.cell (j := 0) rfl
      have r1 := RB.out.cell (j := 1) rfl
      have rf := RB.out.frozen
      have zr : w.heap.size + 1 + 1 + 1 < u4.heap.size := RB.out.lt
      go_wp2
      refine bodyPost_ret (v := .agg #[.int .i64 0, .slice (some ⟨u4.heap.size, 0, none⟩) 4 4]) (by simp [results, Try.results22, go_sem, r0, r1, World.cell?_alloc_lt, RB.out.lt] <;> (repeat' (first | rfl | apply And.intro))) rfl ⟨_, rfl, Or.inr ⟨u4.heap.size, 4, rfl, HO.out.size, trip_seg (cs := #[.int .i64 1, .int .i64 L.n, .int .i64 L.d, .int .i64 2, .int .i64 b.n, .int .i64 b.d, .int .i64 1, .int .i64 L.n, .int .i64 L.d, .int .i64 2, .int .i64 a.n, .int .i64 a.d]) ?_ rfl⟩, ?_⟩
      · exact Blk.new (by simp)
      · have h := HO.out
        have hlt := RB.out.lt
        have hsz := h.size
        go_grown
end Go.Proofs.Ytkkajcdjkfbcgaa
