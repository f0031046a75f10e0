/- x -/
import Derived.Test.YtnikgmjjkdhjbaaTi
import Derived.Handy
import Derived.Deep.RegionHeld3
import Derived.Deep.DeepCutAuto
namespace Go.Proofs.Ytnikgmjjkdhjbaa.LawTracePlain
open Go.ChangeShapes Go.WideShapes Go.ChangeAt Go.RowKit Go.Joins
set_option linter.unusedVariables false

def CB (W : World) (k : Nat) (c v : Value) : Prop := k < W.heap.size ∧ W.cell? ⟨k, 0, none⟩ = some c ∧ W.cell? ⟨k, 1, none⟩ = some v
theorem CB.later {W W' : World} {k : Nat} {c v : Value} (h : CB W k c v) (b : Below W.heap.size W W') : CB W' k c v := ⟨Nat.lt_of_lt_of_le h.1 b.size, (b.cell (p := ⟨k, 0, none⟩) h.1).trans h.2.1, (b.cell (p := ⟨k, 1, none⟩) h.1).trans h.2.2⟩
theorem CB.under {W W' : World} {k : Nat} {c v : Value} (h : CB W k c v) {a d : Nat} (b : Within a d W W') (hh : k < a ∨ d ≤ k) : CB W' k c v := by
  have e : W'.heap[k]? = W.heap[k]? := by
    rcases hh with hh | hh
    · exact b.below.block k hh
    · exact b.above k hh h.1
  exact ⟨Nat.lt_of_lt_of_le h.1 b.below.size, (World.cell?_of_block (w := W) (a := ⟨k, 0, none⟩) e).trans h.2.1, (World.cell?_of_block (w := W) (a := ⟨k, 1, none⟩) e).trans h.2.2⟩
theorem set2 {t m lo hi : Nat} {w : World} {v a b : Value} {n k : Nat} {f : Nat → Nat → Value} (h : OwV t m lo hi w v n f) (hk : k < lo ∨ hi ≤ k) : OwV t m lo hi ((w.setCell ⟨k, 0, none⟩ a).setCell ⟨k, 1, none⟩ b) v n f := by
  rcases h with h | ⟨g, cap, rfl, h1, h2, h3⟩
  · exact Or.inl h
  · exact Or.inr ⟨g, cap, rfl, h1, h2, (h3.setOther (by omega) _).setOther (by omega) _⟩
theorem owSeg {t m lo hi : Nat} {w : World} {g n cap : Nat} {f : Nat → Nat → Value} (h : OwV t m lo hi w (.slice (some ⟨g, 0, none⟩) n cap) n f) : SegV w g t n m f := by
  rcases h with ⟨h, _⟩ | ⟨g', cap', e, _, _, h3⟩
  · simp at h
  · simp only [Value.slice.injEq, Option.some.injEq, Addr.mk.injEq] at e
    obtain ⟨⟨rfl, _⟩, _⟩ := e
    exact h3
def PY (fn : FuncId) (args : Array Value) (w : World) (c : Int) (n : Nat) (G : Nat → Ry) : Prop :=
  Calls Try.prog fn args w fun e w' => ∃ v lo hi, e = .returned (Pl c v) ∧ w.heap.size ≤ lo ∧ hi ≤ w'.heap.size ∧ OwV 70 4 lo hi w' v n (fun i j => rc (G i) j) ∧ Below w.heap.size w w'
theorem PX.weak {fn : FuncId} {args : Array Value} {w : World} {c : Int} {n : Nat} {G : Nat → Ry} (h : PX fn args w c n G) : PY fn args w c n G := by
  refine Calls.mono h ?_
  rintro e w' ⟨v, rfl, ov, b⟩
  exact ⟨v, _, _, rfl, Nat.le_refl _, Nat.le_refl _, ov, b⟩
theorem trace_both (n : Nat) (G : Nat → Pt) (r : Ry) (hn : n ≤ 1000000000) : ∃ (c : Int) (N : Nat) (F : Nat → Ry), N ≤ 201 ∧ (∀ W g, SegV W g 34 n 3 (fun i j => ptc (G i) j) → PX 35 #[.slice (some ⟨g, 0, none⟩) n n, .agg #[.int .i64 r.Y.n, .int .i64 r.Y.d, .int .i64 r.U.n, .int .i64 r.U.d]] W c N F) ∧ (∀ W g, SegV W g 34 n 3 (fun i j => ptc (G i) j) → PX 37 #[.slice (some ⟨g, 0, none⟩) n n, .agg #[.int .i64 r.Y.n, .int .i64 r.Y.d, .int .i64 r.U.n, .int .i64 r.U.d]] W c N F) := by
  by_cases h : lC G n = 0
  · have h200 : n ≤ 200 := by
      unfold lC at h
      by_cases e : 200 < n
      · rw [if_pos e] at h; omega
      · omega
    cases hr : r.ok with
    | true =>
      refine ⟨_, _, _, ?_, fun W g hs => strace_2 g 0 n n G r W hn (rdp_of hs) h hr, fun W g hs => itrace_2 g 0 n n G r W hn (rdp_of hs) h hr⟩
      cases trB G r n <;> simp [tnO] <;> omega
    | false => exact ⟨_, _, _, by omega, fun W g hs => strace_1 g 0 n n G r W hn (rdp_of hs) h hr, fun W g hs => itrace_1 g 0 n n G r W hn (rdp_of hs) h hr⟩
  · exact ⟨_, _, _, by omega, fun W g hs => strace_0 g 0 n n G r W hn (rdp_of hs) h, fun W g hs => itrace_0 g 0 n n G r W hn (rdp_of hs) h⟩
set_option maxRecDepth 100000 in
set_option maxHeartbeats 12800000 in
theorem walk {w : World} {v : Value} {n : Nat} {G : Nat → Pt} (h : RdV w v n 3 (fun i j => ptc (G i) j)) (hn : n ≤ 9223372036854775807) (r : Ry) :
    Calls Try.prog 9 #[v, .agg #[.int .i64 r.Y.n, .int .i64 r.Y.d, .int .i64 r.U.n, .int .i64 r.U.d]] w fun e w' => e = .returned (.bool true) ∧ Below w.heap.size w w' := by
  obtain ⟨ao, cap, rfl⟩ := h.form
  have H : Hid (RdV w (.slice ao n cap) n 3 (fun i j => ptc (G i) j)) := h
  clear h
  have SZ : Hid (∀ w, Calls Try.prog 22 #[.slice ao n cap, .int .i64 1048576] w fun e w' => e = .returned (.int .i64 (if 1048576 < n then -1 else 1048576 - n)) ∧ w = w') := fun w => szPts_any ao n cap w hn
  go_enter Try.func9, Try.ntmps9
  by_cases hb : 1048576 < n
  · rw [if_pos hb] at SZ
    have hbI : (1048576 : Int) < n := by omega
    go_wp2_with (first | (go_at_call 22; refine (SZ.out _).mono ?_; rintro e w1 ⟨rfl, rfl⟩))
    go_ret
    exact ⟨rfl, (Below.refl _ _).alloc (Nat.le_refl _) _⟩
  rw [if_neg hb] at SZ
  have hn2 : n ≤ 1000000000 := by omega
  have hn3 : n ≤ 1000000000000 := by omega
  obtain ⟨LF, hLF⟩ : ∃ L : Int, L = 1048576 - n := ⟨_, rfl⟩
  have hLF0 : ¬ LF < 0 := by omega
  rw [← hLF] at SZ
  clear hLF
  obtain ⟨c, N, F, hN, SC0, IC0⟩ := trace_both n G r hn2
  have SC : Hid (∀ W g, SegV W g 34 n 3 (fun i j => ptc (G i) j) → PX 35 #[.slice (some ⟨g, 0, none⟩) n n, .agg #[.int .i64 r.Y.n, .int .i64 r.Y.d, .int .i64 r.U.n, .int .i64 r.U.d]] W c N F) := SC0
  have IC : Hid (∀ W g, SegV W g 34 n 3 (fun i j => ptc (G i) j) → PX 37 #[.slice (some ⟨g, 0, none⟩) n n, .agg #[.int .i64 r.Y.n, .int .i64 r.Y.d, .int .i64 r.U.n, .int .i64 r.U.d]] W c N F) := IC0
  clear SC0 IC0
  have hN2 : N ≤ 1000000000000 := by omega
  obtain ⟨M, hM⟩ : ∃ M : Int, M = 1 + 4 * N := ⟨_, rfl⟩
  have hM0 : ¬ M < 0 := by omega
  have hM1 : M ≤ 10000 := by omega
  obtain ⟨MP, hMP⟩ : ∃ M : Int, M = 1 + 3 * n := ⟨_, rfl⟩
  have hMP0 : ¬ MP < 0 := by omega
  have hMP1 : MP ≤ 10000000 := by omega
  have MK : Hid (∀ (lo hi : Nat) (W : World) (v : Value) (f : Nat → Nat → Value), lo ≤ W.heap.size → OwV 70 4 lo hi W v N f → Calls Try.prog 40 #[Pl c v, .int .i64 1] W fun e w' => e = .returned (.int .i64 M) ∧ OwV 70 4 lo hi w' v N (mkv 4 1) ∧ Within lo hi W w' ∧ W.heap.size ≤ w'.heap.size) := fun lo hi W v f hl h => by rw [hM]; exact markPl_own h hl 1 (by omega) (by omega)
  have HL : Hid (∀ (lo hi : Nat) (W : World) (v : Value), OwV 70 4 lo hi W v N (mkv 4 1) → Calls Try.prog 41 #[Pl c v, .int .i64 1] W fun e w' => e = .returned (.int .i64 M) ∧ Below W.heap.size W w') := fun lo hi W v h => by rw [hM]; exact heldPl_own h (by omega) (by omega)
  have MR : Hid (∀ (lo hi : Nat) (W : World) (v : Value) (f : Nat → Nat → Value), OwV 34 3 lo hi W v n f → Calls Try.prog 39 #[v, .int .i64 1] W fun e w' => e = .returned (.int .i64 MP) ∧ OwV 34 3 lo hi w' v n (mkv 3 1) ∧ Within lo hi W w' ∧ w'.heap.size = W.heap.size) := fun lo hi W v f h => by rw [hMP]; exact markP_own h 1 (by omega) (by omega)
  clear hM hMP
  go_upto_region 2 with fail
  obtain ⟨wz, hwz⟩ : ∃ W, W = w.alloc (.cells #[.int .i64 r.Y.n, .int .i64 r.Y.d, .int .i64 r.U.n, .int .i64 r.U.d] 64) := ⟨_, rfl⟩
  have HB0 : Hid (Blk wz w.heap.size #[.int .i64 r.Y.n, .int .i64 r.Y.d, .int .i64 r.U.n, .int .i64 r.U.d] 64) := by show Blk _ _ _ _; rw [hwz]; exact Blk.new rfl
  have HO : Hid (Below w.heap.size w wz) := by show Below _ _ _; rw [hwz]; exact (Below.refl _ _).alloc (Nat.le_refl _) _
  have Y0 : Hid (w.heap.size + 1 ≤ wz.heap.size) := by show _ ≤ _; rw [hwz]; simp
  rw [← hwz]
  clear hwz
  go_wp2_with fail
  refine (SZ.out _).mono ?_
  rintro e wx ⟨rfl, rfl⟩
  clear SZ
  have Z0 : Hid (w.heap.size ≤ wz.heap.size) := HO.out.size
  have kk0 : ∀ W, Below wz.heap.size wz W → W.cell? ⟨w.heap.size, 0, none⟩ = some (.int .i64 r.Y.n) := fun _ h => (Blk.old HB0.out h).cell (j := 0) rfl
  have kk1 : ∀ W, Below wz.heap.size wz W → W.cell? ⟨w.heap.size, 1, none⟩ = some (.int .i64 r.Y.d) := fun _ h => (Blk.old HB0.out h).cell (j := 1) rfl
  have kk2 : ∀ W, Below wz.heap.size wz W → W.cell? ⟨w.heap.size, 2, none⟩ = some (.int .i64 r.U.n) := fun _ h => (Blk.old HB0.out h).cell (j := 2) rfl
  have kk3 : ∀ W, Below wz.heap.size wz W → W.cell? ⟨w.heap.size, 3, none⟩ = some (.int .i64 r.U.d) := fun _ h => (Blk.old HB0.out h).cell (j := 3) rfl
  have hR0 : Below wz.heap.size wz wz := Below.refl _ _
  have TO : Hid (∀ W, Below wz.heap.size wz W → Calls Try.prog 23 #[.slice ao n cap] W fun e w' => ∃ g, e = .returned (.slice (some ⟨g, 0, none⟩) n n) ∧ SegV w' g 34 n 3 (fun i j => ptc (G i) j) ∧ Below W.heap.size W w') := fun W hb => by
    refine (toPts_any (H.out.later (HO.out.trans (hb.mono HO.out.size))) hn2).mono ?_
    rintro e w' ⟨rfl, sx, b⟩
    exact ⟨_, rfl, sx, b⟩
  go_wp2_with fail
  go_cut [6] from 18 to 22 (fun p wx => ∃ (kx : Nat) (v : Value) (lo hi : Nat), p = .pointer (some ⟨kx, 0, none⟩) ∧ wz.heap.size ≤ kx ∧ kx < wx.heap.size ∧ wz.heap.size ≤ lo ∧ hi ≤ wx.heap.size ∧ Below wz.heap.size wz wx ∧ wx.cell? ⟨kx, 0, none⟩ = some (.int .i64 c) ∧ wx.cell? ⟨kx, 1, none⟩ = some v ∧ OwV 70 4 lo hi wx v N (fun i j => rc (F i) j) ∧ (kx < lo ∨ hi ≤ kx))
  case first =>
    go_region_held3 (fun W => Below wz.heap.size wz W) (go_grown) (first
      | (go_at_call 23; refine (TO.out _ (by first | assumption | go_grown)).mono ?_; rintro e wa ⟨ga, rfl, sa, ba⟩; have za := ba.size; (try simp at za); have hRa : Below wz.heap.size wz wa := (by refine box_step ?_ ba (by go_size); go_grown); have SA : Hid (SegV wa ga 34 n 3 (fun i j => ptc (G i) j)) := sa; have ka : Below wa.heap.size wa wa := Below.refl _ _; (first | (have hZ := box_step hZ ba (Nat.le_refl _)) | (have hZ := ba)); obtain ⟨ho1, hf1, hz1⟩ := olds' hZ)
      | (go_at_call 36; refine (toRay r _).mono ?_; rintro e wb ⟨rfl, bb⟩; have zb := bb.size; (try simp at zb); have hRb : Below wz.heap.size wz wb := (by refine box_step ?_ bb (by go_size); go_grown); have kab : Below wa.heap.size wa wb := (by refine box_step ?_ bb (by go_size); go_grown); (first | (have hZ := box_step hZ bb (Nat.le_refl _)) | (have hZ := bb)); obtain ⟨ho1, hf1, hz1⟩ := olds' hZ)
      | (go_at_call 35; refine (PX.weak (SC.out _ ga (SA.out.below (by go_grown)))).mono ?_; rintro e wd ⟨v, lo, hi, rfl, hlo, hhi, ov, bd⟩; obtain ⟨vo, vc, rfl⟩ := ov.form; have zd := bd.size; (try simp at zd); (try simp at hlo); have hRd : Below wz.heap.size wz wd := (by refine box_step ?_ bd (by go_size); go_grown); have OV : Hid (OwV 70 4 lo hi wd (.slice vo N vc) N (fun i j => rc (F i) j)) := ov; clear ov; (first | (have hZ := box_step hZ bd (Nat.le_refl _)) | (have hZ := bd)); obtain ⟨ho1, hf1, hz1⟩ := olds' hZ))
    all_goals
      go_wp2_with fail
      go_meet
      case rel =>
        refine ⟨_, .slice vo N vc, lo, hi, rfl, ?_, ?_, ?_, ?_, ?_, ?_, ?_, ?_, ?_⟩
        · omega
        · simp [World.setCell] <;> omega
        · omega
        · simp [World.setCell] <;> omega
        · first | assumption | go_grown
        · first | (go_simp; done) | (simp [*]; done)
        · first | (go_simp; done) | (simp [*]; done)
        · first | exact set2 OV.out (by omega) | exact OV.out.later ((Below.refl _ _).alloc (Nat.le_refl _) _)
        · omega
  case rest =>
    obtain ⟨ks, vs0, los, his, rfl, hk1, hk2, hl1, hl2, hB, d0, d1, ov, hd⟩ := hcut
    obtain ⟨vso, vsc, rfl⟩ := ov.form
    clear kk0 kk1 kk2 kk3 hR0 TO
    obtain ⟨w1, hv⟩ : ∃ v, v = wc := ⟨_, rfl⟩
    subst hv
    replace HB0 : Hid (Blk w1 w.heap.size #[.int .i64 r.Y.n, .int .i64 r.Y.d, .int .i64 r.U.n, .int .i64 r.U.d] 64) := Blk.old HB0.out hB
    have Z1 : Hid (wz.heap.size ≤ w1.heap.size) := hB.size
    replace HO : Hid (Below w.heap.size w w1) := HO.out.trans (hB.mono HO.out.size)
    have BS : Hid (CB w1 ks (.int .i64 c) (.slice vso N vsc)) := ⟨hk2, d0, d1⟩
    have OS : Hid (OwV 70 4 los his w1 (.slice vso N vsc) N (fun i j => rc (F i) j)) := ov
    have Ks : Hid (wz.heap.size ≤ ks ∧ ks < w1.heap.size ∧ wz.heap.size ≤ los ∧ his ≤ w1.heap.size ∧ (ks < los ∨ his ≤ ks)) := ⟨hk1, hk2, hl1, hl2, hd⟩
    clear hB hk1 hk2 hl1 hl2 hd d0 d1 ov
    go_wp2_with fail
    refine (toPts_any (H.out.later HO.out) hn2).mono ?_
    rintro e w2 ⟨rfl, sx, b⟩
    have SX : Hid (OwV 34 3 w1.heap.size w2.heap.size w2 (.slice (some ⟨w1.heap.size, 0, none⟩) n n) n (fun i j => ptc (G i) j)) := Or.inr ⟨_, _, rfl, Nat.le_refl _, sx.lt, sx⟩
    clear sx
    replace HB0 : Hid (Blk w2 w.heap.size #[.int .i64 r.Y.n, .int .i64 r.Y.d, .int .i64 r.U.n, .int .i64 r.U.d] 64) := Blk.old HB0.out b
    replace BS : Hid (CB w2 ks (.int .i64 c) (.slice vso N vsc)) := BS.out.later b
    replace OS : Hid (OwV 70 4 los his w2 (.slice vso N vsc) N (fun i j => rc (F i) j)) := OS.out.later b
    have Z2 : Hid (w1.heap.size ≤ w2.heap.size) := b.size
    replace HO : Hid (Below w.heap.size w w2) := HO.out.trans (b.mono HO.out.size)
    clear b
    have ry0 := HB0.out.cell (j := 0) (v := .int .i64 r.Y.n) rfl
    have ry1 := HB0.out.cell (j := 1) (v := .int .i64 r.Y.d) rfl
    have ry2 := HB0.out.cell (j := 2) (v := .int .i64 r.U.n) rfl
    have ry3 := HB0.out.cell (j := 3) (v := .int .i64 r.U.d) rfl
    go_wp2_with fail
    refine (toRay r _).mono ?_
    rintro e w3 ⟨rfl, b⟩
    clear ry0 ry1 ry2 ry3
    replace HB0 : Hid (Blk w3 w.heap.size #[.int .i64 r.Y.n, .int .i64 r.Y.d, .int .i64 r.U.n, .int .i64 r.U.d] 64) := Blk.old HB0.out b
    replace BS : Hid (CB w3 ks (.int .i64 c) (.slice vso N vsc)) := BS.out.later b
    replace OS : Hid (OwV 70 4 los his w3 (.slice vso N vsc) N (fun i j => rc (F i) j)) := OS.out.later b
    replace SX : Hid (OwV 34 3 w1.heap.size w2.heap.size w3 (.slice (some ⟨w1.heap.size, 0, none⟩) n n) n (fun i j => ptc (G i) j)) := SX.out.later b
    have Z3 : Hid (w2.heap.size ≤ w3.heap.size) := b.size
    replace HO : Hid (Below w.heap.size w w3) := HO.out.trans (b.mono HO.out.size)
    clear b
    go_wp2_with fail
    refine (IC.out _ _ (owSeg SX.out)).mono ?_
    rintro e w4 ⟨vp0, rfl, ov, b⟩
    obtain ⟨vpo, vpc, rfl⟩ := ov.form
    have OP : Hid (OwV 70 4 w3.heap.size w4.heap.size w4 (.slice vpo N vpc) N (fun i j => rc (F i) j)) := ov
    clear ov
    replace HB0 : Hid (Blk w4 w.heap.size #[.int .i64 r.Y.n, .int .i64 r.Y.d, .int .i64 r.U.n, .int .i64 r.U.d] 64) := Blk.old HB0.out b
    replace BS : Hid (CB w4 ks (.int .i64 c) (.slice vso N vsc)) := BS.out.later b
    replace OS : Hid (OwV 70 4 los his w4 (.slice vso N vsc) N (fun i j => rc (F i) j)) := OS.out.later b
    replace SX : Hid (OwV 34 3 w1.heap.size w2.heap.size w4 (.slice (some ⟨w1.heap.size, 0, none⟩) n n) n (fun i j => ptc (G i) j)) := SX.out.later b
    have Z4 : Hid (w3.heap.size ≤ w4.heap.size) := b.size
    replace HO : Hid (Below w.heap.size w w4) := HO.out.trans (b.mono HO.out.size)
    clear b
    go_upto_region 8 with fail
    obtain ⟨w5, hwd⟩ : ∃ W, W = w4.alloc (.cells #[.int .i64 c, .slice vpo N vpc] 67) := ⟨_, rfl⟩
    have BP : Hid (Blk w5 w4.heap.size #[.int .i64 c, .slice vpo N vpc] 67) := by show Blk _ _ _ _; rw [hwd]; exact Blk.new rfl
    have b : Below w4.heap.size w4 w5 := by rw [hwd]; exact (Below.refl _ _).alloc (Nat.le_refl _) _
    have Y5 : Hid (w4.heap.size + 1 ≤ w5.heap.size) := by show _ ≤ _; rw [hwd]; simp
    rw [← hwd]
    clear hwd
    replace HB0 : Hid (Blk w5 w.heap.size #[.int .i64 r.Y.n, .int .i64 r.Y.d, .int .i64 r.U.n, .int .i64 r.U.d] 64) := Blk.old HB0.out b
    replace BS : Hid (CB w5 ks (.int .i64 c) (.slice vso N vsc)) := BS.out.later b
    replace OS : Hid (OwV 70 4 los his w5 (.slice vso N vsc) N (fun i j => rc (F i) j)) := OS.out.later b
    replace SX : Hid (OwV 34 3 w1.heap.size w2.heap.size w5 (.slice (some ⟨w1.heap.size, 0, none⟩) n n) n (fun i j => ptc (G i) j)) := SX.out.later b
    replace OP : Hid (OwV 70 4 w3.heap.size w4.heap.size w5 (.slice vpo N vpc) N (fun i j => rc (F i) j)) := OP.out.later b
    have Z5 : Hid (w4.heap.size ≤ w5.heap.size) := b.size
    replace HO : Hid (Below w.heap.size w w5) := HO.out.trans (b.mono HO.out.size)
    clear b
    have p0 := BP.out.cell (j := 0) (v := .int .i64 c) rfl
    have p1 := BP.out.cell (j := 1) (v := .slice vpo N vpc) rfl
    have s0 := BS.out.2.1
    have s1 := BS.out.2.2
    go_wp2_with fail
    refine (eqPl_same OP.out OS.out hN2).mono ?_
    rintro e w6 ⟨rfl, b⟩
    clear p0 p1 s0 s1
    replace HB0 : Hid (Blk w6 w.heap.size #[.int .i64 r.Y.n, .int .i64 r.Y.d, .int .i64 r.U.n, .int .i64 r.U.d] 64) := Blk.old HB0.out b
    replace BS : Hid (CB w6 ks (.int .i64 c) (.slice vso N vsc)) := BS.out.later b
    replace OS : Hid (OwV 70 4 los his w6 (.slice vso N vsc) N (fun i j => rc (F i) j)) := OS.out.later b
    replace SX : Hid (OwV 34 3 w1.heap.size w2.heap.size w6 (.slice (some ⟨w1.heap.size, 0, none⟩) n n) n (fun i j => ptc (G i) j)) := SX.out.later b
    replace OP : Hid (OwV 70 4 w3.heap.size w4.heap.size w6 (.slice vpo N vpc) N (fun i j => rc (F i) j)) := OP.out.later b
    replace BP : Hid (Blk w6 w4.heap.size #[.int .i64 c, .slice vpo N vpc] 67) := Blk.old BP.out b
    have Z6 : Hid (w5.heap.size ≤ w6.heap.size) := b.size
    replace HO : Hid (Below w.heap.size w w6) := HO.out.trans (b.mono HO.out.size)
    clear b
    go_wp2_with fail
    refine (toPts_any (H.out.later HO.out) hn2).mono ?_
    rintro e w7 ⟨rfl, sx, b⟩
    have SY : Hid (OwV 34 3 w6.heap.size w7.heap.size w7 (.slice (some ⟨w6.heap.size, 0, none⟩) n n) n (fun i j => ptc (G i) j)) := Or.inr ⟨_, _, rfl, Nat.le_refl _, sx.lt, sx⟩
    clear sx
    replace HB0 : Hid (Blk w7 w.heap.size #[.int .i64 r.Y.n, .int .i64 r.Y.d, .int .i64 r.U.n, .int .i64 r.U.d] 64) := Blk.old HB0.out b
    replace BS : Hid (CB w7 ks (.int .i64 c) (.slice vso N vsc)) := BS.out.later b
    replace OS : Hid (OwV 70 4 los his w7 (.slice vso N vsc) N (fun i j => rc (F i) j)) := OS.out.later b
    replace SX : Hid (OwV 34 3 w1.heap.size w2.heap.size w7 (.slice (some ⟨w1.heap.size, 0, none⟩) n n) n (fun i j => ptc (G i) j)) := SX.out.later b
    replace OP : Hid (OwV 70 4 w3.heap.size w4.heap.size w7 (.slice vpo N vpc) N (fun i j => rc (F i) j)) := OP.out.later b
    replace BP : Hid (Blk w7 w4.heap.size #[.int .i64 c, .slice vpo N vpc] 67) := Blk.old BP.out b
    have Z7 : Hid (w6.heap.size ≤ w7.heap.size) := b.size
    replace HO : Hid (Below w.heap.size w w7) := HO.out.trans (b.mono HO.out.size)
    clear b
    go_wp2_with fail
    refine (eqPts_same _ _ _ _ _ _ _ hn3 (owSeg SX.out) (owSeg SY.out)).mono ?_
    rintro e w8 ⟨rfl, b⟩
    replace HB0 : Hid (Blk w8 w.heap.size #[.int .i64 r.Y.n, .int .i64 r.Y.d, .int .i64 r.U.n, .int .i64 r.U.d] 64) := Blk.old HB0.out b
    replace BS : Hid (CB w8 ks (.int .i64 c) (.slice vso N vsc)) := BS.out.later b
    replace OS : Hid (OwV 70 4 los his w8 (.slice vso N vsc) N (fun i j => rc (F i) j)) := OS.out.later b
    replace SX : Hid (OwV 34 3 w1.heap.size w2.heap.size w8 (.slice (some ⟨w1.heap.size, 0, none⟩) n n) n (fun i j => ptc (G i) j)) := SX.out.later b
    replace OP : Hid (OwV 70 4 w3.heap.size w4.heap.size w8 (.slice vpo N vpc) N (fun i j => rc (F i) j)) := OP.out.later b
    replace BP : Hid (Blk w8 w4.heap.size #[.int .i64 c, .slice vpo N vpc] 67) := Blk.old BP.out b
    replace SY : Hid (OwV 34 3 w6.heap.size w7.heap.size w8 (.slice (some ⟨w6.heap.size, 0, none⟩) n n) n (fun i j => ptc (G i) j)) := SY.out.later b
    have Z8 : Hid (w7.heap.size ≤ w8.heap.size) := b.size
    replace HO : Hid (Below w.heap.size w w8) := HO.out.trans (b.mono HO.out.size)
    clear b
    clear SY
    go_wp2_with fail
    refine (MR.out _ _ _ _ _ SX.out).mono ?_
    rintro e w9 ⟨rfl, sm, wi, zm⟩
    have Z9 : Hid (w8.heap.size ≤ w9.heap.size) := Nat.le_of_eq zm.symm
    replace HB0 : Hid (Blk w9 w.heap.size #[.int .i64 r.Y.n, .int .i64 r.Y.d, .int .i64 r.U.n, .int .i64 r.U.d] 64) := Blk.under HB0.out wi (by have := Y0.out; have := Z0.out; have := Z1.out; have := Ks.out; have := Z2.out; have := Z3.out; have := Z4.out; have := Y5.out; have := Z5.out; have := Z6.out; have := Z7.out; have := Z8.out; have := Z9.out; omega)
    replace BS : Hid (CB w9 ks (.int .i64 c) (.slice vso N vsc)) := BS.out.under wi (by have := Y0.out; have := Z0.out; have := Z1.out; have := Ks.out; have := Z2.out; have := Z3.out; have := Z4.out; have := Y5.out; have := Z5.out; have := Z6.out; have := Z7.out; have := Z8.out; have := Z9.out; omega)
    replace OS : Hid (OwV 70 4 los his w9 (.slice vso N vsc) N (fun i j => rc (F i) j)) := OS.out.under wi (by have := Y0.out; have := Z0.out; have := Z1.out; have := Ks.out; have := Z2.out; have := Z3.out; have := Z4.out; have := Y5.out; have := Z5.out; have := Z6.out; have := Z7.out; have := Z8.out; have := Z9.out; omega)
    replace OP : Hid (OwV 70 4 w3.heap.size w4.heap.size w9 (.slice vpo N vpc) N (fun i j => rc (F i) j)) := OP.out.under wi (by have := Y0.out; have := Z0.out; have := Z1.out; have := Ks.out; have := Z2.out; have := Z3.out; have := Z4.out; have := Y5.out; have := Z5.out; have := Z6.out; have := Z7.out; have := Z8.out; have := Z9.out; omega)
    replace BP : Hid (Blk w9 w4.heap.size #[.int .i64 c, .slice vpo N vpc] 67) := Blk.under BP.out wi (by have := Y0.out; have := Z0.out; have := Z1.out; have := Ks.out; have := Z2.out; have := Z3.out; have := Z4.out; have := Y5.out; have := Z5.out; have := Z6.out; have := Z7.out; have := Z8.out; have := Z9.out; omega)
    replace SX : Hid (OwV 34 3 w1.heap.size w2.heap.size w9 (.slice (some ⟨w1.heap.size, 0, none⟩) n n) n (mkv 3 1)) := sm
    replace HO : Hid (Below w.heap.size w w9) := HO.out.trans (wi.below.mono (by have := Y0.out; have := Z0.out; have := Z1.out; have := Ks.out; have := Z2.out; have := Z3.out; have := Z4.out; have := Y5.out; have := Z5.out; have := Z6.out; have := Z7.out; have := Z8.out; have := Z9.out; omega))
    clear wi zm sm
    have p0 := BP.out.cell (j := 0) (v := .int .i64 c) rfl
    have p1 := BP.out.cell (j := 1) (v := .slice vpo N vpc) rfl
    have s0 := BS.out.2.1
    have s1 := BS.out.2.2
    go_wp2_with fail
    refine (eqPl_same OP.out OS.out hN2).mono ?_
    rintro e w10 ⟨rfl, b⟩
    clear p0 p1 s0 s1
    replace HB0 : Hid (Blk w10 w.heap.size #[.int .i64 r.Y.n, .int .i64 r.Y.d, .int .i64 r.U.n, .int .i64 r.U.d] 64) := Blk.old HB0.out b
    replace BS : Hid (CB w10 ks (.int .i64 c) (.slice vso N vsc)) := BS.out.later b
    replace OS : Hid (OwV 70 4 los his w10 (.slice vso N vsc) N (fun i j => rc (F i) j)) := OS.out.later b
    replace SX : Hid (OwV 34 3 w1.heap.size w2.heap.size w10 (.slice (some ⟨w1.heap.size, 0, none⟩) n n) n (mkv 3 1)) := SX.out.later b
    replace OP : Hid (OwV 70 4 w3.heap.size w4.heap.size w10 (.slice vpo N vpc) N (fun i j => rc (F i) j)) := OP.out.later b
    replace BP : Hid (Blk w10 w4.heap.size #[.int .i64 c, .slice vpo N vpc] 67) := Blk.old BP.out b
    have Z10 : Hid (w9.heap.size ≤ w10.heap.size) := b.size
    replace HO : Hid (Below w.heap.size w w10) := HO.out.trans (b.mono HO.out.size)
    clear b
    have p0 := BP.out.cell (j := 0) (v := .int .i64 c) rfl
    have p1 := BP.out.cell (j := 1) (v := .slice vpo N vpc) rfl
    go_wp2_with fail
    refine (MK.out _ _ _ _ _ (by have := Y0.out; have := Z0.out; have := Z1.out; have := Ks.out; have := Z2.out; have := Z3.out; have := Z4.out; have := Y5.out; have := Z5.out; have := Z6.out; have := Z7.out; have := Z8.out; have := Z9.out; have := Z10.out; omega) OP.out).mono ?_
    rintro e w11 ⟨rfl, sm, wi, zm⟩
    have Z11 : Hid (w10.heap.size ≤ w11.heap.size) := zm
    clear p0 p1
    replace HB0 : Hid (Blk w11 w.heap.size #[.int .i64 r.Y.n, .int .i64 r.Y.d, .int .i64 r.U.n, .int .i64 r.U.d] 64) := Blk.under HB0.out wi (by have := Y0.out; have := Z0.out; have := Z1.out; have := Ks.out; have := Z2.out; have := Z3.out; have := Z4.out; have := Y5.out; have := Z5.out; have := Z6.out; have := Z7.out; have := Z8.out; have := Z9.out; have := Z10.out; have := Z11.out; omega)
    replace BS : Hid (CB w11 ks (.int .i64 c) (.slice vso N vsc)) := BS.out.under wi (by have := Y0.out; have := Z0.out; have := Z1.out; have := Ks.out; have := Z2.out; have := Z3.out; have := Z4.out; have := Y5.out; have := Z5.out; have := Z6.out; have := Z7.out; have := Z8.out; have := Z9.out; have := Z10.out; have := Z11.out; omega)
    replace OS : Hid (OwV 70 4 los his w11 (.slice vso N vsc) N (fun i j => rc (F i) j)) := OS.out.under wi (by have := Y0.out; have := Z0.out; have := Z1.out; have := Ks.out; have := Z2.out; have := Z3.out; have := Z4.out; have := Y5.out; have := Z5.out; have := Z6.out; have := Z7.out; have := Z8.out; have := Z9.out; have := Z10.out; have := Z11.out; omega)
    replace SX : Hid (OwV 34 3 w1.heap.size w2.heap.size w11 (.slice (some ⟨w1.heap.size, 0, none⟩) n n) n (mkv 3 1)) := SX.out.under wi (by have := Y0.out; have := Z0.out; have := Z1.out; have := Ks.out; have := Z2.out; have := Z3.out; have := Z4.out; have := Y5.out; have := Z5.out; have := Z6.out; have := Z7.out; have := Z8.out; have := Z9.out; have := Z10.out; have := Z11.out; omega)
    replace BP : Hid (Blk w11 w4.heap.size #[.int .i64 c, .slice vpo N vpc] 67) := Blk.under BP.out wi (by have := Y0.out; have := Z0.out; have := Z1.out; have := Ks.out; have := Z2.out; have := Z3.out; have := Z4.out; have := Y5.out; have := Z5.out; have := Z6.out; have := Z7.out; have := Z8.out; have := Z9.out; have := Z10.out; have := Z11.out; omega)
    replace OP : Hid (OwV 70 4 w3.heap.size w4.heap.size w11 (.slice vpo N vpc) N (mkv 4 1)) := sm
    replace HO : Hid (Below w.heap.size w w11) := HO.out.trans (wi.below.mono (by have := Y0.out; have := Z0.out; have := Z1.out; have := Ks.out; have := Z2.out; have := Z3.out; have := Z4.out; have := Y5.out; have := Z5.out; have := Z6.out; have := Z7.out; have := Z8.out; have := Z9.out; have := Z10.out; have := Z11.out; omega))
    clear wi zm sm
    have p0 := BP.out.cell (j := 0) (v := .int .i64 c) rfl
    have p1 := BP.out.cell (j := 1) (v := .slice vpo N vpc) rfl
    go_wp2_with fail
    refine (HL.out _ _ _ _ OP.out).mono ?_
    rintro e w12 ⟨rfl, b⟩
    clear p0 p1
    replace HB0 : Hid (Blk w12 w.heap.size #[.int .i64 r.Y.n, .int .i64 r.Y.d, .int .i64 r.U.n, .int .i64 r.U.d] 64) := Blk.old HB0.out b
    replace BS : Hid (CB w12 ks (.int .i64 c) (.slice vso N vsc)) := BS.out.later b
    replace OS : Hid (OwV 70 4 los his w12 (.slice vso N vsc) N (fun i j => rc (F i) j)) := OS.out.later b
    replace SX : Hid (OwV 34 3 w1.heap.size w2.heap.size w12 (.slice (some ⟨w1.heap.size, 0, none⟩) n n) n (mkv 3 1)) := SX.out.later b
    replace OP : Hid (OwV 70 4 w3.heap.size w4.heap.size w12 (.slice vpo N vpc) N (mkv 4 1)) := OP.out.later b
    replace BP : Hid (Blk w12 w4.heap.size #[.int .i64 c, .slice vpo N vpc] 67) := Blk.old BP.out b
    have Z12 : Hid (w11.heap.size ≤ w12.heap.size) := b.size
    replace HO : Hid (Below w.heap.size w w12) := HO.out.trans (b.mono HO.out.size)
    clear b
    have kk0 : ∀ W, Below w12.heap.size w12 W → W.cell? ⟨w.heap.size, 0, none⟩ = some (.int .i64 r.Y.n) := fun _ h => (Blk.old HB0.out h).cell (j := 0) rfl
    have kk1 : ∀ W, Below w12.heap.size w12 W → W.cell? ⟨w.heap.size, 1, none⟩ = some (.int .i64 r.Y.d) := fun _ h => (Blk.old HB0.out h).cell (j := 1) rfl
    have kk2 : ∀ W, Below w12.heap.size w12 W → W.cell? ⟨w.heap.size, 2, none⟩ = some (.int .i64 r.U.n) := fun _ h => (Blk.old HB0.out h).cell (j := 2) rfl
    have kk3 : ∀ W, Below w12.heap.size w12 W → W.cell? ⟨w.heap.size, 3, none⟩ = some (.int .i64 r.U.d) := fun _ h => (Blk.old HB0.out h).cell (j := 3) rfl
    have hR0 : Below w12.heap.size w12 w12 := Below.refl _ _
    have TO : Hid (∀ W, Below w12.heap.size w12 W → Calls Try.prog 23 #[.slice ao n cap] W fun e w' => ∃ g, e = .returned (.slice (some ⟨g, 0, none⟩) n n) ∧ SegV w' g 34 n 3 (fun i j => ptc (G i) j) ∧ Below W.heap.size W w') := fun W hb => by
      refine (toPts_any (H.out.later (HO.out.trans (hb.mono HO.out.size))) hn2).mono ?_
      rintro e w' ⟨rfl, sx, b⟩
      exact ⟨_, rfl, sx, b⟩
    go_wp2_with fail
    go_cut [12] from 60 to 64 (fun p wx => ∃ (kx : Nat) (v : Value) (lo hi : Nat), p = .pointer (some ⟨kx, 0, none⟩) ∧ w12.heap.size ≤ kx ∧ kx < wx.heap.size ∧ w12.heap.size ≤ lo ∧ hi ≤ wx.heap.size ∧ Below w12.heap.size w12 wx ∧ wx.cell? ⟨kx, 0, none⟩ = some (.int .i64 c) ∧ wx.cell? ⟨kx, 1, none⟩ = some v ∧ OwV 70 4 lo hi wx v N (fun i j => rc (F i) j) ∧ (kx < lo ∨ hi ≤ kx))
    case first =>
      go_region_held3 (fun W => Below w12.heap.size w12 W) (go_grown) (first
        | (go_at_call 23; refine (TO.out _ (by first | assumption | go_grown)).mono ?_; rintro e wa ⟨ga, rfl, sa, ba⟩; have za := ba.size; (try simp at za); have hRa : Below w12.heap.size w12 wa := (by refine box_step ?_ ba (by go_size); go_grown); have SA : Hid (SegV wa ga 34 n 3 (fun i j => ptc (G i) j)) := sa; have ka : Below wa.heap.size wa wa := Below.refl _ _; (first | (have hZ := box_step hZ ba (Nat.le_refl _)) | (have hZ := ba)); obtain ⟨ho1, hf1, hz1⟩ := olds' hZ)
        | (go_at_call 36; refine (toRay r _).mono ?_; rintro e wb ⟨rfl, bb⟩; have zb := bb.size; (try simp at zb); have hRb : Below w12.heap.size w12 wb := (by refine box_step ?_ bb (by go_size); go_grown); have kab : Below wa.heap.size wa wb := (by refine box_step ?_ bb (by go_size); go_grown); (first | (have hZ := box_step hZ bb (Nat.le_refl _)) | (have hZ := bb)); obtain ⟨ho1, hf1, hz1⟩ := olds' hZ)
        | (go_at_call 37; refine (PX.weak (IC.out _ ga (SA.out.below (by go_grown)))).mono ?_; rintro e wd ⟨v, lo, hi, rfl, hlo, hhi, ov, bd⟩; obtain ⟨vo, vc, rfl⟩ := ov.form; have zd := bd.size; (try simp at zd); (try simp at hlo); have hRd : Below w12.heap.size w12 wd := (by refine box_step ?_ bd (by go_size); go_grown); have OV : Hid (OwV 70 4 lo hi wd (.slice vo N vc) N (fun i j => rc (F i) j)) := ov; clear ov; (first | (have hZ := box_step hZ bd (Nat.le_refl _)) | (have hZ := bd)); obtain ⟨ho1, hf1, hz1⟩ := olds' hZ))
      all_goals
        go_wp2_with fail
        go_meet
        case rel =>
          refine ⟨_, .slice vo N vc, lo, hi, rfl, ?_, ?_, ?_, ?_, ?_, ?_, ?_, ?_, ?_⟩
          · omega
          · simp [World.setCell] <;> omega
          · omega
          · simp [World.setCell] <;> omega
          · first | assumption | go_grown
          · first | (go_simp; done) | (simp [*]; done)
          · first | (go_simp; done) | (simp [*]; done)
          · first | exact set2 OV.out (by omega) | exact OV.out.later ((Below.refl _ _).alloc (Nat.le_refl _) _)
          · omega
    case rest =>
      obtain ⟨kt, vt0, lot, hit, rfl, hk1, hk2, hl1, hl2, hB, d0, d1, ov, hd⟩ := hcut
      obtain ⟨vto, vtc, rfl⟩ := ov.form
      clear kk0 kk1 kk2 kk3 hR0 TO
      obtain ⟨w13, hv⟩ : ∃ v, v = wc := ⟨_, rfl⟩
      subst hv
      replace HB0 : Hid (Blk w13 w.heap.size #[.int .i64 r.Y.n, .int .i64 r.Y.d, .int .i64 r.U.n, .int .i64 r.U.d] 64) := Blk.old HB0.out hB
      replace BS : Hid (CB w13 ks (.int .i64 c) (.slice vso N vsc)) := BS.out.later hB
      replace OS : Hid (OwV 70 4 los his w13 (.slice vso N vsc) N (fun i j => rc (F i) j)) := OS.out.later hB
      replace SX : Hid (OwV 34 3 w1.heap.size w2.heap.size w13 (.slice (some ⟨w1.heap.size, 0, none⟩) n n) n (mkv 3 1)) := SX.out.later hB
      replace OP : Hid (OwV 70 4 w3.heap.size w4.heap.size w13 (.slice vpo N vpc) N (mkv 4 1)) := OP.out.later hB
      replace BP : Hid (Blk w13 w4.heap.size #[.int .i64 c, .slice vpo N vpc] 67) := Blk.old BP.out hB
      have Z13 : Hid (w12.heap.size ≤ w13.heap.size) := hB.size
      replace HO : Hid (Below w.heap.size w w13) := HO.out.trans (hB.mono HO.out.size)
      have BT : Hid (CB w13 kt (.int .i64 c) (.slice vto N vtc)) := ⟨hk2, d0, d1⟩
      have OT : Hid (OwV 70 4 lot hit w13 (.slice vto N vtc) N (fun i j => rc (F i) j)) := ov
      have Kt : Hid (w12.heap.size ≤ kt ∧ kt < w13.heap.size ∧ w12.heap.size ≤ lot ∧ hit ≤ w13.heap.size ∧ (kt < lot ∨ hit ≤ kt)) := ⟨hk1, hk2, hl1, hl2, hd⟩
      clear hB hk1 hk2 hl1 hl2 hd d0 d1 ov
      have p0 := BT.out.2.1
      have p1 := BT.out.2.2
      have s0 := BS.out.2.1
      have s1 := BS.out.2.2
      go_wp2_with fail
      refine (eqPl_same OT.out OS.out hN2).mono ?_
      rintro e w14 ⟨rfl, b⟩
      clear p0 p1 s0 s1
      replace HB0 : Hid (Blk w14 w.heap.size #[.int .i64 r.Y.n, .int .i64 r.Y.d, .int .i64 r.U.n, .int .i64 r.U.d] 64) := Blk.old HB0.out b
      replace BS : Hid (CB w14 ks (.int .i64 c) (.slice vso N vsc)) := BS.out.later b
      replace OS : Hid (OwV 70 4 los his w14 (.slice vso N vsc) N (fun i j => rc (F i) j)) := OS.out.later b
      replace SX : Hid (OwV 34 3 w1.heap.size w2.heap.size w14 (.slice (some ⟨w1.heap.size, 0, none⟩) n n) n (mkv 3 1)) := SX.out.later b
      replace OP : Hid (OwV 70 4 w3.heap.size w4.heap.size w14 (.slice vpo N vpc) N (mkv 4 1)) := OP.out.later b
      replace BP : Hid (Blk w14 w4.heap.size #[.int .i64 c, .slice vpo N vpc] 67) := Blk.old BP.out b
      replace BT : Hid (CB w14 kt (.int .i64 c) (.slice vto N vtc)) := BT.out.later b
      replace OT : Hid (OwV 70 4 lot hit w14 (.slice vto N vtc) N (fun i j => rc (F i) j)) := OT.out.later b
      have Z14 : Hid (w13.heap.size ≤ w14.heap.size) := b.size
      replace HO : Hid (Below w.heap.size w w14) := HO.out.trans (b.mono HO.out.size)
      clear b
      have p0 := BP.out.cell (j := 0) (v := .int .i64 c) rfl
      have p1 := BP.out.cell (j := 1) (v := .slice vpo N vpc) rfl
      go_wp2_with fail
      refine (HL.out _ _ _ _ OP.out).mono ?_
      rintro e w15 ⟨rfl, b⟩
      clear p0 p1
      replace HB0 : Hid (Blk w15 w.heap.size #[.int .i64 r.Y.n, .int .i64 r.Y.d, .int .i64 r.U.n, .int .i64 r.U.d] 64) := Blk.old HB0.out b
      replace BS : Hid (CB w15 ks (.int .i64 c) (.slice vso N vsc)) := BS.out.later b
      replace OS : Hid (OwV 70 4 los his w15 (.slice vso N vsc) N (fun i j => rc (F i) j)) := OS.out.later b
      replace SX : Hid (OwV 34 3 w1.heap.size w2.heap.size w15 (.slice (some ⟨w1.heap.size, 0, none⟩) n n) n (mkv 3 1)) := SX.out.later b
      replace OP : Hid (OwV 70 4 w3.heap.size w4.heap.size w15 (.slice vpo N vpc) N (mkv 4 1)) := OP.out.later b
      replace BP : Hid (Blk w15 w4.heap.size #[.int .i64 c, .slice vpo N vpc] 67) := Blk.old BP.out b
      replace BT : Hid (CB w15 kt (.int .i64 c) (.slice vto N vtc)) := BT.out.later b
      replace OT : Hid (OwV 70 4 lot hit w15 (.slice vto N vtc) N (fun i j => rc (F i) j)) := OT.out.later b
      have Z15 : Hid (w14.heap.size ≤ w15.heap.size) := b.size
      replace HO : Hid (Below w.heap.size w w15) := HO.out.trans (b.mono HO.out.size)
      clear b
      go_wp2
      go_ret
      exact ⟨rfl, HO.out⟩

set_option maxRecDepth 100000 in
theorem lifted (os : Os) (started : os.Started) (H : Type) (enc : TypeId × Value → H) :
    ReturnsInHanded {} Try.checked os 9 .any (Rows.fnExactTracePlainSpec.pre6 enc Try.prog Try.f9 Rows.fnExactTracePlainRow.domain false) (Rows.fnExactTracePlainSpec.post enc Try.prog Try.f9 false true false false) := by
  refine returnsInHanded_of_change (C := Try.checked) own started (by kernel_rfl) Try.func9
    (ChangeSpec.witness6 (enc := enc) (C := Try.checked) false ⟨#[], #[.slice none 0 0, .agg #[.int .i64 0, .int .i64 0, .int .i64 0, .int .i64 0]], []⟩ 8 (by kernel_rfl) (by kernel_rfl) (by kernel_rfl) (by kernel_rfl)) ?_
  intro W base args ds gs before hval0 hW hcnd _
  have hval : ∀ (j : Nat) t v, Try.f9.params[j]? = some t → args[j]? = some v → Value.okWide Try.prog W .any base t v := hval0
  have hW' := hW
  obtain ⟨p, q, hA0, hV, rfl, hfz, hnd⟩ := hW
  have hA : DataW.TrodAll enc Try.prog W 0 (fun _ => true) true Try.f9.params.toList args.toList ds p := hA0
  rw [Try.params9] at hA hval
  obtain ⟨v0, vs0, d0, ds0, p0, q0, hargs, rfl, rfl, h0, r0⟩ := trodAll_cons hA
  obtain ⟨v1, vs1, d1, ds1, p1, q1, rfl, rfl, rfl, h1, r1⟩ := trodAll_cons r0
  obtain ⟨rfl, rfl, rfl⟩ := trodAll_nil r1
  obtain rfl : args = #[v0, v1] := by cases args; simp_all
  obtain ⟨rfl, rfl⟩ := trodVars_none hV
  have k0 := h0
  have lt0 : ∀ x ∈ p0, x.block < W.heap.size := by obtain ⟨m, hm⟩ := k0; exact DataW.trod_lt m _ _ _ hm
  obtain ⟨n0, F0, R0, nb0⟩ := open_pts (hval 0 46 v0 rfl rfl) h0
  have k1 := h1
  have lt1 : ∀ x ∈ p1, x.block < W.heap.size := by obtain ⟨m, hm⟩ := k1; exact DataW.trod_lt m _ _ _ hm
  obtain ⟨a1, rfl⟩ := open_ray (hval 1 64 v1 rfl rfl) h1
  clear hA0 hval0
  refine (walk R0 nb0 a1).mono fun e W' ⟨he, bel⟩ => ?_
  subst he
  exact ⟨_, rfl, _, _, _, [], _, [], hW', trodAll_mk1 (shut_bool Try.underlying4 _), (trodAll_cons_mk (Below.trod laidOut (by kernel_rfl) (of_decide_eq_true (by kernel_rfl)) k0 bel lt0) (trodAll_cons_mk (Below.trod laidOut (by kernel_rfl) (of_decide_eq_true (by kernel_rfl)) k1 bel lt1) trodAll_mk0)), rfl, bel.frame _, fun h => by cases h⟩

theorem over : Rows.fnExactTracePlainRow.holds Try.pinned (OpenSpec.ofChange Rows.fnExactTracePlainSpec) :=
  OpenClaim.holds_of_wide 9 Try.f9 rfl rfl rfl rfl rfl rfl rfl ⟨rfl, rfl, rfl, rfl, rfl⟩ rfl rfl rfl rfl rfl (by kernel_rfl) Try.func9 (by kernel_rfl)
    (of_decide_eq_true (by kernel_rfl)) (by unfold Func.isWrapper; first | (rw [if_pos (by decide +kernel)]; kernel_rfl) | (rw [if_neg (by decide +kernel)]; exact ⟨rfl, rfl⟩))
    (fun os started H enc _ => lifted os started H enc)
end Go.Proofs.Ytnikgmjjkdhjbaa.LawTracePlain
namespace Go.Proofs.Ytnikgmjjkdhjbaa
theorem tracePlain_holds : Rows.FnExactTracePlainSaid := LawTracePlain.over
#print axioms tracePlain_holds
end Go.Proofs.Ytnikgmjjkdhjbaa
