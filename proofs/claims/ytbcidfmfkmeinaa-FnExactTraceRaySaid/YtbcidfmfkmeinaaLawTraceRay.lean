/- At every list of faces and every ray that come in the program's TraceRay answers as the specification; nothing that was there is changed, and the answer is its own. -/
import Derived.Test.YtbcidfmfkmeinaaAx
import Derived.Test.YtbcidfmfkmeinaaOf
import Derived.Test.YtbcidfmfkmeinaaRows
import Derived.Handy
import Derived.Deep.RegionHeld3
import Derived.Deep.DeepCutAuto
namespace Go.Proofs.Ytbcidfmfkmeinaa.LawTraceRay
open Go.ChangeShapes Go.WideShapes Go.ChangeAt Go.RowKit Go.Joins Fl
set_option linter.unusedVariables false

def CB (W : World) (k : Nat) (c a p v : Value) : Prop := k < W.heap.size ∧ W.cell? ⟨k, 0, none⟩ = some c ∧ W.cell? ⟨k, 1, none⟩ = some a ∧ W.cell? ⟨k, 2, none⟩ = some p ∧ W.cell? ⟨k, 3, none⟩ = some v
theorem CB.of {W W' : World} {k : Nat} {c a p v : Value} (h : CB W k c a p v) (hs : W.heap.size ≤ W'.heap.size) (e : W'.heap[k]? = W.heap[k]?) : CB W' k c a p v :=
  ⟨Nat.lt_of_lt_of_le h.1 hs, (World.cell?_of_block (w := W) (a := ⟨k, 0, none⟩) e).trans h.2.1, (World.cell?_of_block (w := W) (a := ⟨k, 1, none⟩) e).trans h.2.2.1, (World.cell?_of_block (w := W) (a := ⟨k, 2, none⟩) e).trans h.2.2.2.1, (World.cell?_of_block (w := W) (a := ⟨k, 3, none⟩) e).trans h.2.2.2.2⟩
theorem CB.later {W W' : World} {k : Nat} {c a p v : Value} (h : CB W k c a p v) (b : Below W.heap.size W W') : CB W' k c a p v := h.of b.size (b.block k h.1)
theorem CB.under {W W' : World} {k : Nat} {c a p v : Value} (h : CB W k c a p v) {x d : Nat} (b : Within x d W W') (hh : k < x ∨ d ≤ k) : CB W' k c a p v := by
  refine h.of b.below.size ?_
  rcases hh with hh | hh
  · exact b.below.block k hh
  · exact b.above k hh h.1
theorem set4 {N lo hi k : Nat} {T : Nat → Nat → Option Nat} {w : World} {v x0 x1 x2 x3 : Value} (h : Ax N T lo hi w v) (hk : k < lo ∨ hi ≤ k) : Ax N T lo hi ((((w.setCell ⟨k, 0, none⟩ x0).setCell ⟨k, 1, none⟩ x1).setCell ⟨k, 2, none⟩ x2).setCell ⟨k, 3, none⟩ x3) v := by
  obtain ⟨R, h | ⟨g, cap, rfl, h1, h2, h3⟩, hR⟩ := h
  · exact ⟨R, Or.inl h, hR⟩
  · exact ⟨R, Or.inr ⟨g, cap, rfl, h1, h2, (((h3.setOther (by omega) _).setOther (by omega) _).setOther (by omega) _).setOther (by omega) _⟩, hR⟩
/-- A list of n faces in the block g, between lo and hi. -/
def Sg (lo hi : Nat) (W : World) (g n : Nat) (f : Nat → Nat → Value) : Prop := lo ≤ g ∧ g < hi ∧ SegV W g 41 n 5 f
theorem Sg.later {lo hi g n : Nat} {W W' : World} {f : Nat → Nat → Value} (h : Sg lo hi W g n f) (b : Below W.heap.size W W') : Sg lo hi W' g n f := ⟨h.1, h.2.1, h.2.2.below b⟩
theorem Sg.under {lo hi g n : Nat} {W W' : World} {f : Nat → Nat → Value} (h : Sg lo hi W g n f) {x d : Nat} (b : Within x d W W') (hh : hi ≤ x ∨ d ≤ lo) : Sg lo hi W' g n f := by
  refine ⟨h.1, h.2.1, h.2.2.of_block ?_⟩
  have h1 := h.1
  have h2 := h.2.1
  rcases hh with hh | hh
  · exact b.below.block g (by omega)
  · exact b.above g (by omega) h.2.2.lt
theorem markSg {lo hi g n cap : Nat} {W : World} {f : Nat → Nat → Value} (h : Sg lo hi W g n f) (hfl : ∀ i, i < n → ∀ j, j < 5 → ∃ x, f i j = .float .f64 x) (hn : n ≤ 1048576) :
    Calls Try.prog 11 #[.slice (some ⟨g, 0, none⟩) n cap, .int .i64 1] W fun e w' => e = .returned (.int .i64 (1 + 5 * n)) ∧ Sg lo hi w' g n (mk5 1) ∧ Within lo hi W w' ∧ w'.heap.size = W.heap.size := by
  refine (markFa_some g n cap 1 f lo W W hn (by omega) h.2.2 hfl (Below.refl _ _) h.1).mono ?_
  rintro e w' ⟨rfl, s, b, o, z⟩
  have h2 := h.2.1
  exact ⟨rfl, ⟨h.1, h.2.1, s⟩, ⟨b, fun k hk _ => o k (by omega)⟩, z⟩
def TY (fn : FuncId) (args : Array Value) (w : World) (c a : Int) (P : Option Nat) (N : Nat) (T : Nat → Nat → Option Nat) : Prop :=
  Calls Try.prog fn args w fun e w' => ∃ p v lo hi, e = .returned (Tv c a p v) ∧ Fc p P ∧ w.heap.size ≤ lo ∧ hi ≤ w'.heap.size ∧ Ax N T lo hi w' v ∧ Below w.heap.size w w'
theorem weakX {fn : FuncId} {args : Array Value} {w : World} {c a : Int} {P : Option Nat} {N : Nat} {T : Nat → Nat → Option Nat} (h : TX fn args w c a P N T) : TY fn args w c a P N T := by
  refine Calls.mono h ?_
  rintro e w' ⟨p, v, rfl, hp, ov, b⟩
  exact ⟨p, v, _, _, rfl, hp, Nat.le_refl _, Nat.le_refl _, ov, b⟩
set_option maxRecDepth 100000 in
set_option maxHeartbeats 12800000 in
theorem walk {w : World} {v : Value} {n : Nat} {F : Nat → Nat → Nat} (h : RdV w v n 5 (fun i j => fcl (F i) j)) (hn : n ≤ 9223372036854775807) (hF : ∀ i, i < n → Gc (F i) (fun j => cl (F i j))) {a : Nat → Nat} {A : Nat → Option Nat} (ha : Rc a A) :
    Calls Try.prog 3 #[v, Rv a] w fun e w' => e = .returned (.bool true) ∧ Below w.heap.size w w' := by
  obtain ⟨ao, cap, rfl⟩ := h.form
  have H : Hid (RdV w (.slice ao n cap) n 5 (fun i j => fcl (F i) j)) := h
  have HFc : Hid (∀ i, i < n → Gc (F i) (fun j => cl (F i j))) := hF
  clear h
  have SZ : Hid (∀ w, Calls Try.prog 4 #[.slice ao n cap, .int .i64 1048576] w fun e w' => e = .returned (.int .i64 (if 1048576 < n then -1 else 1048576 - n)) ∧ w = w') := fun w => szFas_any ao n cap w hn
  have hst := st64
  go_enter Try.func3, Try.ntmps3
  by_cases hb : 1048576 < n
  · rw [if_pos hb] at SZ
    have hbI : (1048576 : Int) < n := by omega
    go_wp2_with (first | (go_at_call 4; refine (SZ.out _).mono ?_; rintro e w1 ⟨rfl, rfl⟩))
    go_ret
    exact ⟨rfl, (Below.refl _ _).alloc (Nat.le_refl _) _⟩
  rw [if_neg hb] at SZ
  have hn1 : n ≤ 1048576 := by omega
  have hn2 : n ≤ 1000000000 := by omega
  have hn3 : n ≤ 1000000000000 := by omega
  obtain ⟨LF, hLF⟩ : ∃ L : Int, L = 1048576 - n := ⟨_, rfl⟩
  have hLF0 : ¬ LF < 0 := by omega
  rw [← hLF] at SZ
  clear hLF
  obtain ⟨c, at', P, N, T, hN, SC0, IC0⟩ := trace_both n F a ha hF hn1
  have SC : Hid (∀ W g, SegV W g 41 n 5 (fun i j => fcl (F i) j) → TX 5 #[.slice (some ⟨g, 0, none⟩) n n, Rv a] W c at' P N T) := SC0
  have IC : Hid (∀ W g, SegV W g 41 n 5 (fun i j => fcl (F i) j) → TX 8 #[.slice (some ⟨g, 0, none⟩) n n, Rv a] W c at' P N T) := IC0
  clear SC0 IC0 hF ha
  have hN2 : N ≤ 1000000000000 := by omega
  obtain ⟨M, hM⟩ : ∃ M : Int, M = 1 + 6 * N := ⟨_, rfl⟩
  have hM0 : ¬ M < 0 := by omega
  have hM1 : M ≤ 10000 := by omega
  obtain ⟨MP, hMP⟩ : ∃ M : Int, M = 1 + 5 * n := ⟨_, rfl⟩
  have hMP0 : ¬ MP < 0 := by omega
  have hMP1 : MP ≤ 10000000 := by omega
  have MK : Hid (∀ (lo hi : Nat) (W : World) (p : Nat) (v : Value), lo ≤ W.heap.size → Ax N T lo hi W v → Calls Try.prog 12 #[Tv c at' p v, .int .i64 1] W fun e w' => e = .returned (.int .i64 M) ∧ OwW 33 6 lo hi w' v N (mk6 1) ∧ Within lo hi W w' ∧ W.heap.size ≤ w'.heap.size) := fun lo hi W p v hl h => by rw [hM]; exact markTR_ax h hl hN
  have HL : Hid (∀ (lo hi : Nat) (W : World) (p : Nat) (v : Value), OwW 33 6 lo hi W v N (mk6 1) → Calls Try.prog 13 #[Tv c at' p v, .int .i64 1] W fun e w' => e = .returned (.int .i64 M) ∧ Below W.heap.size W w') := fun lo hi W p v h => by rw [hM]; exact heldTR_own (k0 := 1) h (by omega) (by omega)
  have MR : Hid (∀ (lo hi : Nat) (W : World) (g cap : Nat), Sg lo hi W g n (fun i j => fcl (F i) j) → Calls Try.prog 11 #[.slice (some ⟨g, 0, none⟩) n cap, .int .i64 1] W fun e w' => e = .returned (.int .i64 MP) ∧ Sg lo hi w' g n (mk5 1) ∧ Within lo hi W w' ∧ w'.heap.size = W.heap.size) := fun lo hi W g cap h => by rw [hMP]; exact markSg h (fun i _ j _ => ⟨_, rfl⟩) hn1
  clear hM hMP
  go_upto_region 2 with fail
  obtain ⟨wz, hwz⟩ : ∃ W, W = w.alloc (.cells #[.float .f64 (a 0), .float .f64 (a 1), .float .f64 (a 2), .float .f64 (a 3), .float .f64 (a 4), .float .f64 (a 5)] 25) := ⟨_, rfl⟩
  have HB0 : Hid (Blk wz w.heap.size #[.float .f64 (a 0), .float .f64 (a 1), .float .f64 (a 2), .float .f64 (a 3), .float .f64 (a 4), .float .f64 (a 5)] 25) := by show Blk _ _ _ _; rw [hwz]; exact Blk.new rfl
  have HO : Hid (Below w.heap.size w wz) := by show Below _ _ _; rw [hwz]; exact (Below.refl _ _).alloc (Nat.le_refl _) _
  have Y0 : Hid (w.heap.size + 1 ≤ wz.heap.size) := by show _ ≤ _; rw [hwz]; simp
  rw [← hwz]
  clear hwz
  go_wp2_with fail
  refine (SZ.out _).mono ?_
  rintro e wx ⟨rfl, rfl⟩
  clear SZ
  have Z0 : Hid (w.heap.size ≤ wz.heap.size) := HO.out.size
  have kk0 : ∀ W, Below wz.heap.size wz W → W.cell? ⟨w.heap.size, 0, none⟩ = some (.float .f64 (a 0)) := fun _ h => (Blk.old HB0.out h).cell (j := 0) rfl
  have kk1 : ∀ W, Below wz.heap.size wz W → W.cell? ⟨w.heap.size, 1, none⟩ = some (.float .f64 (a 1)) := fun _ h => (Blk.old HB0.out h).cell (j := 1) rfl
  have kk2 : ∀ W, Below wz.heap.size wz W → W.cell? ⟨w.heap.size, 2, none⟩ = some (.float .f64 (a 2)) := fun _ h => (Blk.old HB0.out h).cell (j := 2) rfl
  have kk3 : ∀ W, Below wz.heap.size wz W → W.cell? ⟨w.heap.size, 3, none⟩ = some (.float .f64 (a 3)) := fun _ h => (Blk.old HB0.out h).cell (j := 3) rfl
  have kk4 : ∀ W, Below wz.heap.size wz W → W.cell? ⟨w.heap.size, 4, none⟩ = some (.float .f64 (a 4)) := fun _ h => (Blk.old HB0.out h).cell (j := 4) rfl
  have kk5 : ∀ W, Below wz.heap.size wz W → W.cell? ⟨w.heap.size, 5, none⟩ = some (.float .f64 (a 5)) := fun _ h => (Blk.old HB0.out h).cell (j := 5) rfl
  have hR0 : Below wz.heap.size wz wz := Below.refl _ _
  have TO : Hid (∀ W, Below wz.heap.size wz W → Calls Try.prog 6 #[.slice ao n cap] W fun e w' => ∃ g, e = .returned (.slice (some ⟨g, 0, none⟩) n n) ∧ SegV w' g 41 n 5 (fun i j => fcl (F i) j) ∧ Below W.heap.size W w') := fun W hb => by
    refine (toFas_any (H.out.later (HO.out.trans (hb.mono HO.out.size))) hn2).mono ?_
    rintro e w' ⟨rfl, sx, b⟩
    exact ⟨_, rfl, sx, b⟩
  go_wp2_with fail
  go_cut [6] from 18 to 22 (fun pp wx => ∃ (kx : Nat) (v : Value) (p lo hi : Nat), pp = .pointer (some ⟨kx, 0, none⟩) ∧ wz.heap.size ≤ kx ∧ kx < wx.heap.size ∧ wz.heap.size ≤ lo ∧ hi ≤ wx.heap.size ∧ Below wz.heap.size wz wx ∧ wx.cell? ⟨kx, 0, none⟩ = some (.int .i64 c) ∧ wx.cell? ⟨kx, 1, none⟩ = some (.int .i64 at') ∧ wx.cell? ⟨kx, 2, none⟩ = some (.float .f64 p) ∧ wx.cell? ⟨kx, 3, none⟩ = some v ∧ Hid (Fc p P) ∧ Ax N T lo hi wx v ∧ (kx < lo ∨ hi ≤ kx))
  case first =>
    go_region_held3 (fun W => Below wz.heap.size wz W) (go_grown) (first
      | (go_at_call 6; refine (TO.out _ (by first | assumption | go_grown)).mono ?_; rintro e wa ⟨ga, rfl, sa, ba⟩; have za := ba.size; (try simp at za); have hRa : Below wz.heap.size wz wa := (by refine box_step ?_ ba (by go_size); go_grown); have SA : Hid (SegV wa ga 41 n 5 (fun i j => fcl (F i) j)) := sa; have ka : Below wa.heap.size wa wa := Below.refl _ _; (first | (have hZ := box_step hZ ba (Nat.le_refl _)) | (have hZ := ba)); obtain ⟨ho1, hf1, hz1⟩ := olds hZ; clear sa)
      | (go_at_call 7; refine (toRay_any a _).mono ?_; rintro e wb ⟨rfl, bb⟩; have zb := bb.size; (try simp at zb); have hRb : Below wz.heap.size wz wb := (by refine box_step ?_ bb (by go_size); go_grown); have kab : Below wa.heap.size wa wb := (by refine box_step ?_ bb (by go_size); go_grown); (first | (have hZ := box_step hZ bb (Nat.le_refl _)) | (have hZ := bb)); obtain ⟨ho1, hf1, hz1⟩ := olds hZ)
      | (go_at_call 5; refine (weakX (SC.out _ ga (SA.out.below (by go_grown)))).mono ?_; rintro e wd ⟨p, v, lo, hi, rfl, fp, hlo, hhi, ov, bd⟩; obtain ⟨vo, vc, rfl⟩ := ov.form; have FP : Hid (Fc p P) := fp; have zd := bd.size; (try simp at zd); (try simp at hlo); have hRd : Below wz.heap.size wz wd := (by refine box_step ?_ bd (by go_size); go_grown); have OV : Hid (Ax N T lo hi wd (.slice vo N vc)) := ov; clear ov fp; (first | (have hZ := box_step hZ bd (Nat.le_refl _)) | (have hZ := bd)); obtain ⟨ho1, hf1, hz1⟩ := olds hZ))
    all_goals
      go_wp2_with fail
      go_meet
      case rel =>
        refine ⟨_, .slice vo N vc, p, lo, hi, rfl, ?_, ?_, ?_, ?_, ?_, ?_, ?_, ?_, ?_, FP, ?_, ?_⟩
        · omega
        · simp [World.setCell] <;> omega
        · omega
        · simp [World.setCell] <;> omega
        · first | assumption | go_grown
        · first | (go_simp; done) | (simp [*]; done)
        · first | (go_simp; done) | (simp [*]; done)
        · first | (go_simp; done) | (simp [*]; done)
        · first | (go_simp; done) | (simp [*]; done)
        · first | exact set4 OV.out (by omega) | exact OV.out.later ((Below.refl _ _).alloc (Nat.le_refl _) _)
        · omega
  case rest =>
    obtain ⟨ks, vs0, ps, los, his, rfl, hk1, hk2, hl1, hl2, hB, d0, d1, d2, d3, FPs, ov, hd⟩ := hcut
    obtain ⟨vso, vsc, rfl⟩ := ov.form
    clear kk0 kk1 kk2 kk3 kk4 kk5 hR0 TO
    obtain ⟨w1, hv⟩ : ∃ v, v = wc := ⟨_, rfl⟩
    subst hv
    replace HB0 : Hid (Blk w1 w.heap.size #[.float .f64 (a 0), .float .f64 (a 1), .float .f64 (a 2), .float .f64 (a 3), .float .f64 (a 4), .float .f64 (a 5)] 25) := Blk.old HB0.out hB
    have Z1 : Hid (wz.heap.size ≤ w1.heap.size) := hB.size
    replace HO : Hid (Below w.heap.size w w1) := HO.out.trans (hB.mono HO.out.size)
    have BS : Hid (CB w1 ks (.int .i64 c) (.int .i64 at') (.float .f64 ps) (.slice vso N vsc)) := ⟨hk2, d0, d1, d2, d3⟩
    have OS : Hid (Ax N T los his w1 (.slice vso N vsc)) := ov
    have Ks : Hid (wz.heap.size ≤ ks ∧ ks < w1.heap.size ∧ wz.heap.size ≤ los ∧ his ≤ w1.heap.size ∧ (ks < los ∨ his ≤ ks)) := ⟨hk1, hk2, hl1, hl2, hd⟩
    clear hB hk1 hk2 hl1 hl2 hd d0 d1 d2 d3 ov
    go_wp2_with fail
    refine (toFas_any (H.out.later HO.out) hn2).mono ?_
    rintro e w2 ⟨rfl, sx, b⟩
    have SX : Hid (Sg w1.heap.size w2.heap.size w2 w1.heap.size n (fun i j => fcl (F i) j)) := ⟨Nat.le_refl _, sx.lt, sx⟩
    clear sx
    replace HB0 : Hid (Blk w2 w.heap.size #[.float .f64 (a 0), .float .f64 (a 1), .float .f64 (a 2), .float .f64 (a 3), .float .f64 (a 4), .float .f64 (a 5)] 25) := Blk.old HB0.out b
    replace BS : Hid (CB w2 ks (.int .i64 c) (.int .i64 at') (.float .f64 ps) (.slice vso N vsc)) := BS.out.later b
    replace OS : Hid (Ax N T los his w2 (.slice vso N vsc)) := OS.out.later b
    have Z2 : Hid (w1.heap.size ≤ w2.heap.size) := b.size
    replace HO : Hid (Below w.heap.size w w2) := HO.out.trans (b.mono HO.out.size)
    clear b
    have ry0 := HB0.out.cell (j := 0) (v := .float .f64 (a 0)) rfl
    have ry1 := HB0.out.cell (j := 1) (v := .float .f64 (a 1)) rfl
    have ry2 := HB0.out.cell (j := 2) (v := .float .f64 (a 2)) rfl
    have ry3 := HB0.out.cell (j := 3) (v := .float .f64 (a 3)) rfl
    have ry4 := HB0.out.cell (j := 4) (v := .float .f64 (a 4)) rfl
    have ry5 := HB0.out.cell (j := 5) (v := .float .f64 (a 5)) rfl
    go_wp2_with fail
    refine (toRay_any a _).mono ?_
    rintro e w3 ⟨rfl, b⟩
    clear ry0 ry1 ry2 ry3 ry4 ry5
    replace HB0 : Hid (Blk w3 w.heap.size #[.float .f64 (a 0), .float .f64 (a 1), .float .f64 (a 2), .float .f64 (a 3), .float .f64 (a 4), .float .f64 (a 5)] 25) := Blk.old HB0.out b
    replace BS : Hid (CB w3 ks (.int .i64 c) (.int .i64 at') (.float .f64 ps) (.slice vso N vsc)) := BS.out.later b
    replace OS : Hid (Ax N T los his w3 (.slice vso N vsc)) := OS.out.later b
    replace SX : Hid (Sg w1.heap.size w2.heap.size w3 w1.heap.size n (fun i j => fcl (F i) j)) := SX.out.later b
    have Z3 : Hid (w2.heap.size ≤ w3.heap.size) := b.size
    replace HO : Hid (Below w.heap.size w w3) := HO.out.trans (b.mono HO.out.size)
    clear b
    go_wp2_with fail
    refine (IC.out _ _ SX.out.2.2).mono ?_
    rintro e w4 ⟨pq, vp0, rfl, fq, ov, b⟩
    obtain ⟨vpo, vpc, rfl⟩ := ov.form
    have FPq : Hid (Fc pq P) := fq
    have OP : Hid (Ax N T w3.heap.size w4.heap.size w4 (.slice vpo N vpc)) := ov
    clear ov fq
    replace HB0 : Hid (Blk w4 w.heap.size #[.float .f64 (a 0), .float .f64 (a 1), .float .f64 (a 2), .float .f64 (a 3), .float .f64 (a 4), .float .f64 (a 5)] 25) := Blk.old HB0.out b
    replace BS : Hid (CB w4 ks (.int .i64 c) (.int .i64 at') (.float .f64 ps) (.slice vso N vsc)) := BS.out.later b
    replace OS : Hid (Ax N T los his w4 (.slice vso N vsc)) := OS.out.later b
    replace SX : Hid (Sg w1.heap.size w2.heap.size w4 w1.heap.size n (fun i j => fcl (F i) j)) := SX.out.later b
    have Z4 : Hid (w3.heap.size ≤ w4.heap.size) := b.size
    replace HO : Hid (Below w.heap.size w w4) := HO.out.trans (b.mono HO.out.size)
    clear b
    go_upto_region 8 with fail
    obtain ⟨w5, hwd⟩ : ∃ W, W = w4.alloc (.cells #[.int .i64 c, .int .i64 at', .float .f64 pq, .slice vpo N vpc] 29) := ⟨_, rfl⟩
    have BP : Hid (Blk w5 w4.heap.size #[.int .i64 c, .int .i64 at', .float .f64 pq, .slice vpo N vpc] 29) := by show Blk _ _ _ _; rw [hwd]; exact Blk.new rfl
    have b : Below w4.heap.size w4 w5 := by rw [hwd]; exact (Below.refl _ _).alloc (Nat.le_refl _) _
    have Y5 : Hid (w4.heap.size + 1 ≤ w5.heap.size) := by show _ ≤ _; rw [hwd]; simp
    rw [← hwd]
    clear hwd
    replace HB0 : Hid (Blk w5 w.heap.size #[.float .f64 (a 0), .float .f64 (a 1), .float .f64 (a 2), .float .f64 (a 3), .float .f64 (a 4), .float .f64 (a 5)] 25) := Blk.old HB0.out b
    replace BS : Hid (CB w5 ks (.int .i64 c) (.int .i64 at') (.float .f64 ps) (.slice vso N vsc)) := BS.out.later b
    replace OS : Hid (Ax N T los his w5 (.slice vso N vsc)) := OS.out.later b
    replace SX : Hid (Sg w1.heap.size w2.heap.size w5 w1.heap.size n (fun i j => fcl (F i) j)) := SX.out.later b
    replace OP : Hid (Ax N T w3.heap.size w4.heap.size w5 (.slice vpo N vpc)) := OP.out.later b
    have Z5 : Hid (w4.heap.size ≤ w5.heap.size) := b.size
    replace HO : Hid (Below w.heap.size w w5) := HO.out.trans (b.mono HO.out.size)
    clear b
    have p0 := BP.out.cell (j := 0) (v := .int .i64 c) rfl
    have p1 := BP.out.cell (j := 1) (v := .int .i64 at') rfl
    have p2 := BP.out.cell (j := 2) (v := .float .f64 pq) rfl
    have p3 := BP.out.cell (j := 3) (v := .slice vpo N vpc) rfl
    have s0 := BS.out.2.1
    have s1 := BS.out.2.2.1
    have s2 := BS.out.2.2.2.1
    have s3 := BS.out.2.2.2.2
    go_wp2_with fail
    refine (eqTR_ax hN2 FPq.out FPs.out OP.out OS.out).mono ?_
    rintro e w6 ⟨rfl, b⟩
    clear p0 p1 p2 p3 s0 s1 s2 s3
    replace HB0 : Hid (Blk w6 w.heap.size #[.float .f64 (a 0), .float .f64 (a 1), .float .f64 (a 2), .float .f64 (a 3), .float .f64 (a 4), .float .f64 (a 5)] 25) := Blk.old HB0.out b
    replace BS : Hid (CB w6 ks (.int .i64 c) (.int .i64 at') (.float .f64 ps) (.slice vso N vsc)) := BS.out.later b
    replace OS : Hid (Ax N T los his w6 (.slice vso N vsc)) := OS.out.later b
    replace SX : Hid (Sg w1.heap.size w2.heap.size w6 w1.heap.size n (fun i j => fcl (F i) j)) := SX.out.later b
    replace OP : Hid (Ax N T w3.heap.size w4.heap.size w6 (.slice vpo N vpc)) := OP.out.later b
    replace BP : Hid (Blk w6 w4.heap.size #[.int .i64 c, .int .i64 at', .float .f64 pq, .slice vpo N vpc] 29) := Blk.old BP.out b
    have Z6 : Hid (w5.heap.size ≤ w6.heap.size) := b.size
    replace HO : Hid (Below w.heap.size w w6) := HO.out.trans (b.mono HO.out.size)
    clear b
    go_wp2_with fail
    refine (toFas_any (H.out.later HO.out) hn2).mono ?_
    rintro e w7 ⟨rfl, sx, b⟩
    have SY : Hid (Sg w6.heap.size w7.heap.size w7 w6.heap.size n (fun i j => fcl (F i) j)) := ⟨Nat.le_refl _, sx.lt, sx⟩
    clear sx
    replace HB0 : Hid (Blk w7 w.heap.size #[.float .f64 (a 0), .float .f64 (a 1), .float .f64 (a 2), .float .f64 (a 3), .float .f64 (a 4), .float .f64 (a 5)] 25) := Blk.old HB0.out b
    replace BS : Hid (CB w7 ks (.int .i64 c) (.int .i64 at') (.float .f64 ps) (.slice vso N vsc)) := BS.out.later b
    replace OS : Hid (Ax N T los his w7 (.slice vso N vsc)) := OS.out.later b
    replace SX : Hid (Sg w1.heap.size w2.heap.size w7 w1.heap.size n (fun i j => fcl (F i) j)) := SX.out.later b
    replace OP : Hid (Ax N T w3.heap.size w4.heap.size w7 (.slice vpo N vpc)) := OP.out.later b
    replace BP : Hid (Blk w7 w4.heap.size #[.int .i64 c, .int .i64 at', .float .f64 pq, .slice vpo N vpc] 29) := Blk.old BP.out b
    have Z7 : Hid (w6.heap.size ≤ w7.heap.size) := b.size
    replace HO : Hid (Below w.heap.size w w7) := HO.out.trans (b.mono HO.out.size)
    clear b
    go_wp2_with fail
    refine (eqFas_same _ _ _ _ _ F F _ _ hn3 SX.out.2.2 SY.out.2.2 HFc.out HFc.out).mono ?_
    rintro e w8 ⟨rfl, b⟩
    replace HB0 : Hid (Blk w8 w.heap.size #[.float .f64 (a 0), .float .f64 (a 1), .float .f64 (a 2), .float .f64 (a 3), .float .f64 (a 4), .float .f64 (a 5)] 25) := Blk.old HB0.out b
    replace BS : Hid (CB w8 ks (.int .i64 c) (.int .i64 at') (.float .f64 ps) (.slice vso N vsc)) := BS.out.later b
    replace OS : Hid (Ax N T los his w8 (.slice vso N vsc)) := OS.out.later b
    replace SX : Hid (Sg w1.heap.size w2.heap.size w8 w1.heap.size n (fun i j => fcl (F i) j)) := SX.out.later b
    replace OP : Hid (Ax N T w3.heap.size w4.heap.size w8 (.slice vpo N vpc)) := OP.out.later b
    replace BP : Hid (Blk w8 w4.heap.size #[.int .i64 c, .int .i64 at', .float .f64 pq, .slice vpo N vpc] 29) := Blk.old BP.out b
    replace SY : Hid (Sg w6.heap.size w7.heap.size w8 w6.heap.size n (fun i j => fcl (F i) j)) := SY.out.later b
    have Z8 : Hid (w7.heap.size ≤ w8.heap.size) := b.size
    replace HO : Hid (Below w.heap.size w w8) := HO.out.trans (b.mono HO.out.size)
    clear b
    clear SY
    go_wp2_with fail
    refine (MR.out _ _ _ _ _ SX.out).mono ?_
    rintro e w9 ⟨rfl, sm, wi, zm⟩
    have Z9 : Hid (w8.heap.size ≤ w9.heap.size) := Nat.le_of_eq zm.symm
    replace HB0 : Hid (Blk w9 w.heap.size #[.float .f64 (a 0), .float .f64 (a 1), .float .f64 (a 2), .float .f64 (a 3), .float .f64 (a 4), .float .f64 (a 5)] 25) := Blk.under HB0.out wi (by have := Y0.out; have := Z0.out; have := Z1.out; have := Ks.out; have := Z2.out; have := Z3.out; have := Z4.out; have := Y5.out; have := Z5.out; have := Z6.out; have := Z7.out; have := Z8.out; have := Z9.out; omega)
    replace BS : Hid (CB w9 ks (.int .i64 c) (.int .i64 at') (.float .f64 ps) (.slice vso N vsc)) := BS.out.under wi (by have := Y0.out; have := Z0.out; have := Z1.out; have := Ks.out; have := Z2.out; have := Z3.out; have := Z4.out; have := Y5.out; have := Z5.out; have := Z6.out; have := Z7.out; have := Z8.out; have := Z9.out; omega)
    replace OS : Hid (Ax N T los his w9 (.slice vso N vsc)) := OS.out.under wi (by have := Y0.out; have := Z0.out; have := Z1.out; have := Ks.out; have := Z2.out; have := Z3.out; have := Z4.out; have := Y5.out; have := Z5.out; have := Z6.out; have := Z7.out; have := Z8.out; have := Z9.out; omega)
    replace OP : Hid (Ax N T w3.heap.size w4.heap.size w9 (.slice vpo N vpc)) := OP.out.under wi (by have := Y0.out; have := Z0.out; have := Z1.out; have := Ks.out; have := Z2.out; have := Z3.out; have := Z4.out; have := Y5.out; have := Z5.out; have := Z6.out; have := Z7.out; have := Z8.out; have := Z9.out; omega)
    replace BP : Hid (Blk w9 w4.heap.size #[.int .i64 c, .int .i64 at', .float .f64 pq, .slice vpo N vpc] 29) := Blk.under BP.out wi (by have := Y0.out; have := Z0.out; have := Z1.out; have := Ks.out; have := Z2.out; have := Z3.out; have := Z4.out; have := Y5.out; have := Z5.out; have := Z6.out; have := Z7.out; have := Z8.out; have := Z9.out; omega)
    replace SX : Hid (Sg w1.heap.size w2.heap.size w9 w1.heap.size n (mk5 1)) := sm
    replace HO : Hid (Below w.heap.size w w9) := HO.out.trans (wi.below.mono (by have := Y0.out; have := Z0.out; have := Z1.out; have := Ks.out; have := Z2.out; have := Z3.out; have := Z4.out; have := Y5.out; have := Z5.out; have := Z6.out; have := Z7.out; have := Z8.out; have := Z9.out; omega))
    clear wi zm sm
    have p0 := BP.out.cell (j := 0) (v := .int .i64 c) rfl
    have p1 := BP.out.cell (j := 1) (v := .int .i64 at') rfl
    have p2 := BP.out.cell (j := 2) (v := .float .f64 pq) rfl
    have p3 := BP.out.cell (j := 3) (v := .slice vpo N vpc) rfl
    have s0 := BS.out.2.1
    have s1 := BS.out.2.2.1
    have s2 := BS.out.2.2.2.1
    have s3 := BS.out.2.2.2.2
    go_wp2_with fail
    refine (eqTR_ax hN2 FPq.out FPs.out OP.out OS.out).mono ?_
    rintro e w10 ⟨rfl, b⟩
    clear p0 p1 p2 p3 s0 s1 s2 s3
    replace HB0 : Hid (Blk w10 w.heap.size #[.float .f64 (a 0), .float .f64 (a 1), .float .f64 (a 2), .float .f64 (a 3), .float .f64 (a 4), .float .f64 (a 5)] 25) := Blk.old HB0.out b
    replace BS : Hid (CB w10 ks (.int .i64 c) (.int .i64 at') (.float .f64 ps) (.slice vso N vsc)) := BS.out.later b
    replace OS : Hid (Ax N T los his w10 (.slice vso N vsc)) := OS.out.later b
    replace SX : Hid (Sg w1.heap.size w2.heap.size w10 w1.heap.size n (mk5 1)) := SX.out.later b
    replace OP : Hid (Ax N T w3.heap.size w4.heap.size w10 (.slice vpo N vpc)) := OP.out.later b
    replace BP : Hid (Blk w10 w4.heap.size #[.int .i64 c, .int .i64 at', .float .f64 pq, .slice vpo N vpc] 29) := Blk.old BP.out b
    have Z10 : Hid (w9.heap.size ≤ w10.heap.size) := b.size
    replace HO : Hid (Below w.heap.size w w10) := HO.out.trans (b.mono HO.out.size)
    clear b
    have p0 := BP.out.cell (j := 0) (v := .int .i64 c) rfl
    have p1 := BP.out.cell (j := 1) (v := .int .i64 at') rfl
    have p2 := BP.out.cell (j := 2) (v := .float .f64 pq) rfl
    have p3 := BP.out.cell (j := 3) (v := .slice vpo N vpc) rfl
    go_wp2_with fail
    refine (MK.out _ _ _ _ _ (by have := Y0.out; have := Z0.out; have := Z1.out; have := Ks.out; have := Z2.out; have := Z3.out; have := Z4.out; have := Y5.out; have := Z5.out; have := Z6.out; have := Z7.out; have := Z8.out; have := Z9.out; have := Z10.out; omega) OP.out).mono ?_
    rintro e w11 ⟨rfl, sm, wi, zm⟩
    have Z11 : Hid (w10.heap.size ≤ w11.heap.size) := zm
    clear p0 p1 p2 p3
    replace HB0 : Hid (Blk w11 w.heap.size #[.float .f64 (a 0), .float .f64 (a 1), .float .f64 (a 2), .float .f64 (a 3), .float .f64 (a 4), .float .f64 (a 5)] 25) := Blk.under HB0.out wi (by have := Y0.out; have := Z0.out; have := Z1.out; have := Ks.out; have := Z2.out; have := Z3.out; have := Z4.out; have := Y5.out; have := Z5.out; have := Z6.out; have := Z7.out; have := Z8.out; have := Z9.out; have := Z10.out; have := Z11.out; omega)
    replace BS : Hid (CB w11 ks (.int .i64 c) (.int .i64 at') (.float .f64 ps) (.slice vso N vsc)) := BS.out.under wi (by have := Y0.out; have := Z0.out; have := Z1.out; have := Ks.out; have := Z2.out; have := Z3.out; have := Z4.out; have := Y5.out; have := Z5.out; have := Z6.out; have := Z7.out; have := Z8.out; have := Z9.out; have := Z10.out; have := Z11.out; omega)
    replace OS : Hid (Ax N T los his w11 (.slice vso N vsc)) := OS.out.under wi (by have := Y0.out; have := Z0.out; have := Z1.out; have := Ks.out; have := Z2.out; have := Z3.out; have := Z4.out; have := Y5.out; have := Z5.out; have := Z6.out; have := Z7.out; have := Z8.out; have := Z9.out; have := Z10.out; have := Z11.out; omega)
    replace SX : Hid (Sg w1.heap.size w2.heap.size w11 w1.heap.size n (mk5 1)) := SX.out.under wi (by have := Y0.out; have := Z0.out; have := Z1.out; have := Ks.out; have := Z2.out; have := Z3.out; have := Z4.out; have := Y5.out; have := Z5.out; have := Z6.out; have := Z7.out; have := Z8.out; have := Z9.out; have := Z10.out; have := Z11.out; omega)
    replace BP : Hid (Blk w11 w4.heap.size #[.int .i64 c, .int .i64 at', .float .f64 pq, .slice vpo N vpc] 29) := Blk.under BP.out wi (by have := Y0.out; have := Z0.out; have := Z1.out; have := Ks.out; have := Z2.out; have := Z3.out; have := Z4.out; have := Y5.out; have := Z5.out; have := Z6.out; have := Z7.out; have := Z8.out; have := Z9.out; have := Z10.out; have := Z11.out; omega)
    replace OP : Hid (OwW 33 6 w3.heap.size w4.heap.size w11 (.slice vpo N vpc) N (mk6 1)) := sm
    replace HO : Hid (Below w.heap.size w w11) := HO.out.trans (wi.below.mono (by have := Y0.out; have := Z0.out; have := Z1.out; have := Ks.out; have := Z2.out; have := Z3.out; have := Z4.out; have := Y5.out; have := Z5.out; have := Z6.out; have := Z7.out; have := Z8.out; have := Z9.out; have := Z10.out; have := Z11.out; omega))
    clear wi zm sm
    have p0 := BP.out.cell (j := 0) (v := .int .i64 c) rfl
    have p1 := BP.out.cell (j := 1) (v := .int .i64 at') rfl
    have p2 := BP.out.cell (j := 2) (v := .float .f64 pq) rfl
    have p3 := BP.out.cell (j := 3) (v := .slice vpo N vpc) rfl
    go_wp2_with fail
    refine (HL.out _ _ _ _ _ OP.out).mono ?_
    rintro e w12 ⟨rfl, b⟩
    clear p0 p1 p2 p3
    replace HB0 : Hid (Blk w12 w.heap.size #[.float .f64 (a 0), .float .f64 (a 1), .float .f64 (a 2), .float .f64 (a 3), .float .f64 (a 4), .float .f64 (a 5)] 25) := Blk.old HB0.out b
    replace BS : Hid (CB w12 ks (.int .i64 c) (.int .i64 at') (.float .f64 ps) (.slice vso N vsc)) := BS.out.later b
    replace OS : Hid (Ax N T los his w12 (.slice vso N vsc)) := OS.out.later b
    replace SX : Hid (Sg w1.heap.size w2.heap.size w12 w1.heap.size n (mk5 1)) := SX.out.later b
    replace OP : Hid (OwW 33 6 w3.heap.size w4.heap.size w12 (.slice vpo N vpc) N (mk6 1)) := OP.out.later b
    replace BP : Hid (Blk w12 w4.heap.size #[.int .i64 c, .int .i64 at', .float .f64 pq, .slice vpo N vpc] 29) := Blk.old BP.out b
    have Z12 : Hid (w11.heap.size ≤ w12.heap.size) := b.size
    replace HO : Hid (Below w.heap.size w w12) := HO.out.trans (b.mono HO.out.size)
    clear b
    have kk0 : ∀ W, Below w12.heap.size w12 W → W.cell? ⟨w.heap.size, 0, none⟩ = some (.float .f64 (a 0)) := fun _ h => (Blk.old HB0.out h).cell (j := 0) rfl
    have kk1 : ∀ W, Below w12.heap.size w12 W → W.cell? ⟨w.heap.size, 1, none⟩ = some (.float .f64 (a 1)) := fun _ h => (Blk.old HB0.out h).cell (j := 1) rfl
    have kk2 : ∀ W, Below w12.heap.size w12 W → W.cell? ⟨w.heap.size, 2, none⟩ = some (.float .f64 (a 2)) := fun _ h => (Blk.old HB0.out h).cell (j := 2) rfl
    have kk3 : ∀ W, Below w12.heap.size w12 W → W.cell? ⟨w.heap.size, 3, none⟩ = some (.float .f64 (a 3)) := fun _ h => (Blk.old HB0.out h).cell (j := 3) rfl
    have kk4 : ∀ W, Below w12.heap.size w12 W → W.cell? ⟨w.heap.size, 4, none⟩ = some (.float .f64 (a 4)) := fun _ h => (Blk.old HB0.out h).cell (j := 4) rfl
    have kk5 : ∀ W, Below w12.heap.size w12 W → W.cell? ⟨w.heap.size, 5, none⟩ = some (.float .f64 (a 5)) := fun _ h => (Blk.old HB0.out h).cell (j := 5) rfl
    have hR0 : Below w12.heap.size w12 w12 := Below.refl _ _
    have TO : Hid (∀ W, Below w12.heap.size w12 W → Calls Try.prog 6 #[.slice ao n cap] W fun e w' => ∃ g, e = .returned (.slice (some ⟨g, 0, none⟩) n n) ∧ SegV w' g 41 n 5 (fun i j => fcl (F i) j) ∧ Below W.heap.size W w') := fun W hb => by
      refine (toFas_any (H.out.later (HO.out.trans (hb.mono HO.out.size))) hn2).mono ?_
      rintro e w' ⟨rfl, sx, b⟩
      exact ⟨_, rfl, sx, b⟩
    go_wp2_with fail
    go_cut [12] from 60 to 64 (fun pp wx => ∃ (kx : Nat) (v : Value) (p lo hi : Nat), pp = .pointer (some ⟨kx, 0, none⟩) ∧ w12.heap.size ≤ kx ∧ kx < wx.heap.size ∧ w12.heap.size ≤ lo ∧ hi ≤ wx.heap.size ∧ Below w12.heap.size w12 wx ∧ wx.cell? ⟨kx, 0, none⟩ = some (.int .i64 c) ∧ wx.cell? ⟨kx, 1, none⟩ = some (.int .i64 at') ∧ wx.cell? ⟨kx, 2, none⟩ = some (.float .f64 p) ∧ wx.cell? ⟨kx, 3, none⟩ = some v ∧ Hid (Fc p P) ∧ Ax N T lo hi wx v ∧ (kx < lo ∨ hi ≤ kx))
    case first =>
      go_region_held3 (fun W => Below w12.heap.size w12 W) (go_grown) (first
        | (go_at_call 6; refine (TO.out _ (by first | assumption | go_grown)).mono ?_; rintro e wa ⟨ga, rfl, sa, ba⟩; have za := ba.size; (try simp at za); have hRa : Below w12.heap.size w12 wa := (by refine box_step ?_ ba (by go_size); go_grown); have SA : Hid (SegV wa ga 41 n 5 (fun i j => fcl (F i) j)) := sa; have ka : Below wa.heap.size wa wa := Below.refl _ _; (first | (have hZ := box_step hZ ba (Nat.le_refl _)) | (have hZ := ba)); obtain ⟨ho1, hf1, hz1⟩ := olds hZ; clear sa)
        | (go_at_call 7; refine (toRay_any a _).mono ?_; rintro e wb ⟨rfl, bb⟩; have zb := bb.size; (try simp at zb); have hRb : Below w12.heap.size w12 wb := (by refine box_step ?_ bb (by go_size); go_grown); have kab : Below wa.heap.size wa wb := (by refine box_step ?_ bb (by go_size); go_grown); (first | (have hZ := box_step hZ bb (Nat.le_refl _)) | (have hZ := bb)); obtain ⟨ho1, hf1, hz1⟩ := olds hZ)
        | (go_at_call 8; refine (weakX (IC.out _ ga (SA.out.below (by go_grown)))).mono ?_; rintro e wd ⟨p, v, lo, hi, rfl, fp, hlo, hhi, ov, bd⟩; obtain ⟨vo, vc, rfl⟩ := ov.form; have FP : Hid (Fc p P) := fp; have zd := bd.size; (try simp at zd); (try simp at hlo); have hRd : Below w12.heap.size w12 wd := (by refine box_step ?_ bd (by go_size); go_grown); have OV : Hid (Ax N T lo hi wd (.slice vo N vc)) := ov; clear ov fp; (first | (have hZ := box_step hZ bd (Nat.le_refl _)) | (have hZ := bd)); obtain ⟨ho1, hf1, hz1⟩ := olds hZ))
      all_goals
        go_wp2_with fail
        go_meet
        case rel =>
          refine ⟨_, .slice vo N vc, p, lo, hi, rfl, ?_, ?_, ?_, ?_, ?_, ?_, ?_, ?_, ?_, FP, ?_, ?_⟩
          · omega
          · simp [World.setCell] <;> omega
          · omega
          · simp [World.setCell] <;> omega
          · first | assumption | go_grown
          · first | (go_simp; done) | (simp [*]; done)
          · first | (go_simp; done) | (simp [*]; done)
          · first | (go_simp; done) | (simp [*]; done)
          · first | (go_simp; done) | (simp [*]; done)
          · first | exact set4 OV.out (by omega) | exact OV.out.later ((Below.refl _ _).alloc (Nat.le_refl _) _)
          · omega
    case rest =>
      obtain ⟨kt, vt0, pt, lot, hit, rfl, hk1, hk2, hl1, hl2, hB, d0, d1, d2, d3, FPt, ov, hd⟩ := hcut
      obtain ⟨vto, vtc, rfl⟩ := ov.form
      clear kk0 kk1 kk2 kk3 kk4 kk5 hR0 TO
      obtain ⟨w13, hv⟩ : ∃ v, v = wc := ⟨_, rfl⟩
      subst hv
      replace HB0 : Hid (Blk w13 w.heap.size #[.float .f64 (a 0), .float .f64 (a 1), .float .f64 (a 2), .float .f64 (a 3), .float .f64 (a 4), .float .f64 (a 5)] 25) := Blk.old HB0.out hB
      replace BS : Hid (CB w13 ks (.int .i64 c) (.int .i64 at') (.float .f64 ps) (.slice vso N vsc)) := BS.out.later hB
      replace OS : Hid (Ax N T los his w13 (.slice vso N vsc)) := OS.out.later hB
      replace SX : Hid (Sg w1.heap.size w2.heap.size w13 w1.heap.size n (mk5 1)) := SX.out.later hB
      replace OP : Hid (OwW 33 6 w3.heap.size w4.heap.size w13 (.slice vpo N vpc) N (mk6 1)) := OP.out.later hB
      replace BP : Hid (Blk w13 w4.heap.size #[.int .i64 c, .int .i64 at', .float .f64 pq, .slice vpo N vpc] 29) := Blk.old BP.out hB
      have Z13 : Hid (w12.heap.size ≤ w13.heap.size) := hB.size
      replace HO : Hid (Below w.heap.size w w13) := HO.out.trans (hB.mono HO.out.size)
      have BT : Hid (CB w13 kt (.int .i64 c) (.int .i64 at') (.float .f64 pt) (.slice vto N vtc)) := ⟨hk2, d0, d1, d2, d3⟩
      have OT : Hid (Ax N T lot hit w13 (.slice vto N vtc)) := ov
      have Kt : Hid (w12.heap.size ≤ kt ∧ kt < w13.heap.size ∧ w12.heap.size ≤ lot ∧ hit ≤ w13.heap.size ∧ (kt < lot ∨ hit ≤ kt)) := ⟨hk1, hk2, hl1, hl2, hd⟩
      clear hB hk1 hk2 hl1 hl2 hd d0 d1 d2 d3 ov
      have p0 := BT.out.2.1
      have p1 := BT.out.2.2.1
      have p2 := BT.out.2.2.2.1
      have p3 := BT.out.2.2.2.2
      have s0 := BS.out.2.1
      have s1 := BS.out.2.2.1
      have s2 := BS.out.2.2.2.1
      have s3 := BS.out.2.2.2.2
      go_wp2_with fail
      refine (eqTR_ax hN2 FPt.out FPs.out OT.out OS.out).mono ?_
      rintro e w14 ⟨rfl, b⟩
      clear p0 p1 p2 p3 s0 s1 s2 s3
      replace HB0 : Hid (Blk w14 w.heap.size #[.float .f64 (a 0), .float .f64 (a 1), .float .f64 (a 2), .float .f64 (a 3), .float .f64 (a 4), .float .f64 (a 5)] 25) := Blk.old HB0.out b
      replace BS : Hid (CB w14 ks (.int .i64 c) (.int .i64 at') (.float .f64 ps) (.slice vso N vsc)) := BS.out.later b
      replace OS : Hid (Ax N T los his w14 (.slice vso N vsc)) := OS.out.later b
      replace SX : Hid (Sg w1.heap.size w2.heap.size w14 w1.heap.size n (mk5 1)) := SX.out.later b
      replace OP : Hid (OwW 33 6 w3.heap.size w4.heap.size w14 (.slice vpo N vpc) N (mk6 1)) := OP.out.later b
      replace BP : Hid (Blk w14 w4.heap.size #[.int .i64 c, .int .i64 at', .float .f64 pq, .slice vpo N vpc] 29) := Blk.old BP.out b
      replace BT : Hid (CB w14 kt (.int .i64 c) (.int .i64 at') (.float .f64 pt) (.slice vto N vtc)) := BT.out.later b
      replace OT : Hid (Ax N T lot hit w14 (.slice vto N vtc)) := OT.out.later b
      have Z14 : Hid (w13.heap.size ≤ w14.heap.size) := b.size
      replace HO : Hid (Below w.heap.size w w14) := HO.out.trans (b.mono HO.out.size)
      clear b
      have p0 := BP.out.cell (j := 0) (v := .int .i64 c) rfl
      have p1 := BP.out.cell (j := 1) (v := .int .i64 at') rfl
      have p2 := BP.out.cell (j := 2) (v := .float .f64 pq) rfl
      have p3 := BP.out.cell (j := 3) (v := .slice vpo N vpc) rfl
      go_wp2_with fail
      refine (HL.out _ _ _ _ _ OP.out).mono ?_
      rintro e w15 ⟨rfl, b⟩
      clear p0 p1 p2 p3
      replace HB0 : Hid (Blk w15 w.heap.size #[.float .f64 (a 0), .float .f64 (a 1), .float .f64 (a 2), .float .f64 (a 3), .float .f64 (a 4), .float .f64 (a 5)] 25) := Blk.old HB0.out b
      replace BS : Hid (CB w15 ks (.int .i64 c) (.int .i64 at') (.float .f64 ps) (.slice vso N vsc)) := BS.out.later b
      replace OS : Hid (Ax N T los his w15 (.slice vso N vsc)) := OS.out.later b
      replace SX : Hid (Sg w1.heap.size w2.heap.size w15 w1.heap.size n (mk5 1)) := SX.out.later b
      replace OP : Hid (OwW 33 6 w3.heap.size w4.heap.size w15 (.slice vpo N vpc) N (mk6 1)) := OP.out.later b
      replace BP : Hid (Blk w15 w4.heap.size #[.int .i64 c, .int .i64 at', .float .f64 pq, .slice vpo N vpc] 29) := Blk.old BP.out b
      replace BT : Hid (CB w15 kt (.int .i64 c) (.int .i64 at') (.float .f64 pt) (.slice vto N vtc)) := BT.out.later b
      replace OT : Hid (Ax N T lot hit w15 (.slice vto N vtc)) := OT.out.later b
      have Z15 : Hid (w14.heap.size ≤ w15.heap.size) := b.size
      replace HO : Hid (Below w.heap.size w w15) := HO.out.trans (b.mono HO.out.size)
      clear b
      go_wp2
      go_ret
      exact ⟨rfl, HO.out⟩

set_option maxRecDepth 100000 in
theorem lifted (os : Os) (started : os.Started) (H : Type) (enc : TypeId × Value → H) :
    ReturnsInHanded {} Try.checked os 3 .any (Rows.fnExactTraceRaySpec.pre6 enc Try.prog Try.f3 Rows.fnExactTraceRayRow.domain false) (Rows.fnExactTraceRaySpec.post enc Try.prog Try.f3 false true false false) := by
  refine returnsInHanded_of_change (C := Try.checked) own started (by kernel_rfl) Try.func3
    (ChangeSpec.witness6 (enc := enc) (C := Try.checked) false ⟨#[], #[.slice none 0 0, .agg #[.float .f64 0, .float .f64 0, .float .f64 0, .float .f64 0, .float .f64 0, .float .f64 0]], []⟩ 8 (by kernel_rfl) (by kernel_rfl) (by kernel_rfl) (by kernel_rfl)) ?_
  intro W base args ds gs before hval0 hW hcnd _
  have hval : ∀ (j : Nat) t v, Try.f3.params[j]? = some t → args[j]? = some v → Value.okWide Try.prog W .any base t v := hval0
  have hW' := hW
  obtain ⟨p, q, hA0, hV, rfl, hfz, hnd⟩ := hW
  have hA : DataW.TrodAll enc Try.prog W 0 (fun _ => true) true Try.f3.params.toList args.toList ds p := hA0
  rw [Try.params3] at hA hval
  obtain ⟨v0, vs0, d0, ds0, p0, q0, hargs, rfl, rfl, h0, r0⟩ := trodAll_cons hA
  obtain ⟨v1, vs1, d1, ds1, p1, q1, rfl, rfl, rfl, h1, r1⟩ := trodAll_cons r0
  obtain ⟨rfl, rfl, rfl⟩ := trodAll_nil r1
  obtain rfl : args = #[v0, v1] := by cases args; simp_all
  obtain ⟨rfl, rfl⟩ := trodVars_none hV
  have k0 := h0
  have lt0 : ∀ x ∈ p0, x.block < W.heap.size := by obtain ⟨m, hm⟩ := k0; exact DataW.trod_lt m _ _ _ hm
  obtain ⟨n0, F0, R0, nb0, fb0⟩ := open_faces (hval 0 22 v0 rfl rfl) h0
  have k1 := h1
  have lt1 : ∀ x ∈ p1, x.block < W.heap.size := by obtain ⟨m, hm⟩ := k1; exact DataW.trod_lt m _ _ _ hm
  obtain ⟨a1, A1, rfl, hr1⟩ := open_ray (hval 1 25 v1 rfl rfl) h1
  clear hA0 hval0
  refine (walk R0 nb0 fb0 hr1).mono fun e W' ⟨he, bel⟩ => ?_
  subst he
  exact ⟨_, rfl, _, _, _, [], _, [], hW', trodAll_mk1 (shut_bool Try.underlying4 _), (trodAll_cons_mk (Below.trod laidOut (by kernel_rfl) (of_decide_eq_true (by kernel_rfl)) k0 bel lt0) (trodAll_cons_mk (Below.trod laidOut (by kernel_rfl) (of_decide_eq_true (by kernel_rfl)) k1 bel lt1) trodAll_mk0)), rfl, bel.frame _, fun h => by cases h⟩

theorem over : Rows.fnExactTraceRayRow.holds Try.pinned (OpenSpec.ofChange Rows.fnExactTraceRaySpec) :=
  OpenClaim.holds_of_wide 3 Try.f3 rfl rfl rfl rfl rfl rfl rfl ⟨rfl, rfl, rfl, rfl, rfl⟩ rfl rfl rfl rfl rfl (by kernel_rfl) Try.func3 (by kernel_rfl)
    (of_decide_eq_true (by kernel_rfl)) (by unfold Func.isWrapper; first | (rw [if_pos (by decide +kernel)]; kernel_rfl) | (rw [if_neg (by decide +kernel)]; exact ⟨rfl, rfl⟩))
    (fun os started H enc _ => lifted os started H enc)
end Go.Proofs.Ytbcidfmfkmeinaa.LawTraceRay
namespace Go.Proofs.Ytbcidfmfkmeinaa
theorem traceRay_holds : Rows.FnExactTraceRaySaid := LawTraceRay.over
#print axioms traceRay_holds
end Go.Proofs.Ytbcidfmfkmeinaa
