/- Spots: the program. -/
import Derived.Test.YtcmgafgboepllaaSc
namespace Go.Proofs.Ytcmgafgboepllaa
open Go.RowKit Fl
set_option linter.unusedVariables false
set_option linter.unusedSimpArgs false
/-- Two lists in variables of their own, and the answer's block. -/
structure S6 (w W : World) (px py gx gy n : Nat) (f g : Nat → Nat) : Prop where
  be : Below w.heap.size w W
  res : Blk W w.heap.size #[.int .i64 0, .float .f64 0, .float .f64 0, .float .f64 0] 26
  bx : Blk W px #[.slice (some ⟨gx, 0, none⟩) n n] 34
  by' : Blk W py #[.slice (some ⟨gy, 0, none⟩) n n] 34
  sx : Seg W gx 24 0 n (fun i => .float .f64 (f i))
  sy : Seg W gy 24 0 n (fun i => .float .f64 (g i))
  lx : w.heap.size + 1 ≤ gx
  ly : w.heap.size + 1 ≤ gy
  ne : gx ≠ gy
theorem Seg.neB {w : World} {b b' : Nat} {t t' : TypeId} {off n : Nat} {f : Nat → Value} {cs : Array Value} (h : Seg w b t off n f) (h' : Blk w b' cs t') (ht : t' ≠ t) : b' ≠ b := by
  obtain ⟨c, hb, _⟩ := h
  intro e
  subst e
  unfold Blk at h'
  rw [hb] at h'
  simp at h'
  exact ht h'.2.symm
theorem S6.setX {w W : World} {px py gx gy n k : Nat} {f g : Nat → Nat} (h : S6 w W px py gx gy n f g) (hk : k < n) (x : Nat) : S6 w (W.setCell ⟨gx, k, none⟩ (.float .f64 x)) px py gx gy n (fun i => if i = k then x else f i) g := by
  have s := h.sx.set k hk (.float .f64 x)
  rw [Nat.zero_add] at s
  exact ⟨h.be.setCell (by have := h.lx; show w.heap.size ≤ gx; omega) _, h.res.setOther (h.sx.neB h.res (by decide)) _, h.bx.setOther (h.sx.neB h.bx (by decide)) _, h.by'.setOther (h.sx.neB h.by' (by decide)) _, s.congr (fun i _ => by by_cases e : i = k <;> simp [e]), h.sy.setOther (fun e => h.ne e.symm) _, h.lx, h.ly, h.ne⟩
theorem S6.swap {w W : World} {px py gx gy n : Nat} {f g : Nat → Nat} (h : S6 w W px py gx gy n f g) : S6 w W py px gy gx n g f := ⟨h.be, h.res, h.by', h.bx, h.sy, h.sx, h.ly, h.lx, fun e => h.ne e.symm⟩
theorem S6.drew {w W : World} {px py gx gy n : Nat} {f g : Nat → Nat} (h : S6 w W px py gx gy n f g) : S6 w W.drew px py gx gy n f g := ⟨h.be.drew, h.res, h.bx, h.by', h.sx, h.sy, h.lx, h.ly, h.ne⟩
theorem S6.congr {w W : World} {px py gx gy n : Nat} {f g f' g' : Nat → Nat} (h : S6 w W px py gx gy n f g) (h1 : ∀ i, i < n → f i = f' i) (h2 : ∀ i, i < n → g i = g' i) : S6 w W px py gx gy n f' g' :=
  ⟨h.be, h.res, h.bx, h.by', h.sx.congr (fun i hi => by rw [h1 i hi]), h.sy.congr (fun i hi => by rw [h2 i hi]), h.lx, h.ly, h.ne⟩
def upTo (k : Nat) (f : Nat → Nat) (i : Nat) : Nat := if i < k then f i else 0
theorem upTo_succ (k : Nat) (f : Nat → Nat) (i : Nat) : (if i = k then f k else upTo k f i) = upTo (k + 1) f i := by
  unfold upTo
  by_cases e : i = k
  · subst e; simp
  · by_cases e2 : i < k
    · simp [e, e2, Nat.lt_succ_of_lt e2]
    · have : ¬ i < k + 1 := by omega
      simp [e, e2, this]
set_option maxRecDepth 20000 in
theorem iSpot_many (ao : Option Addr) (n cap : Nat) (hn : n ≤ 1000000000000) (h : 400 < n) (w : World) : SV 13 #[.slice ao n cap] w 2 (fun _ => zO) := by
  unfold SV
  have hst := st64
  have hI : (400 : Int) < n := by omega
  go_enter Try.func13, Try.ntmps13
  go_wp2
  refine bodyPost_ret (v := Sp 2 (fun _ => 0)) (by simp [results, Try.results13, go_sem]) rfl ?_
  exact ⟨fun _ => 0, rfl, fun j _ => fc_zero, by go_grown⟩
set_option maxRecDepth 20000 in
theorem iSpot_zero (ao : Option Addr) (cap : Nat) (w : World) : SV 13 #[.slice ao 0 cap] w 1 (fun _ => zO) := by
  unfold SV
  have hst := st64
  go_enter Try.func13, Try.ntmps13
  go_wp2
  refine bodyPost_ret (v := Sp 1 (fun _ => 0)) (by simp [results, Try.results13, go_sem]) rfl ?_
  exact ⟨fun _ => 0, rfl, fun j _ => fc_zero, by go_grown⟩
set_option maxRecDepth 20000 in
set_option maxHeartbeats 6400000 in
theorem iSpot_ok (bi off n cap : Nat) (G : Nat → Nat → Nat) (w : World) (hn : n ≤ 400) (h0 : 1 ≤ n) (hcell : ∀ i, i < n → ∀ j, j < 2 → w.cell? ⟨bi, off + i * 2 + j, none⟩ = some (fcl (G i) j)) (hG : ∀ i, i < n → ∀ j, j < 2 → W64 (G i j)) :
    SV 13 #[.slice (some ⟨bi, off, none⟩) n cap] w 0 (spC G n) := by
  unfold SV
  have HC : Hid (∀ i, i < n → ∀ j, j < 2 → w.cell? ⟨bi, off + i * 2 + j, none⟩ = some (fcl (G i) j)) := hcell
  have HG : Hid (∀ i, i < n → ∀ j, j < 2 → W64 (G i j)) := hG
  have hcv := conv3
  have hst := st64
  have hnI : ¬ (400 : Int) < n := by omega
  have hnz : ¬ (n : Int) = 0 := by omega
  have hnz2 : ¬ n = 0 := by omega
  have hmk := fun w => run_make_row' (P := Try.prog) 34 24 (.float .f64 0) 8 Try.underlying34 info24 rfl .i64 .i64 n (by omega) (by omega) w
  clear hcell hG
  go_enter Try.func13, Try.ntmps13
  go_upto_region 6 with fail
  go_cut [4, 5, 21, 23] (fun p q s t wx => ∃ (px py gx gy : Nat), p = .pointer (some ⟨px, 0, none⟩) ∧ q = .pointer (some ⟨py, 0, none⟩) ∧ s = .slice (some ⟨gx, 0, none⟩) n n ∧ t = .slice (some ⟨gy, 0, none⟩) n n ∧ S6 w wx px py gx gy n (fun _ => 0) (fun _ => 0))
  case first =>
    go_region
    all_goals
      go_wp2_with fail
      go_meet
      case rel =>
        refine ⟨_, _, _, _, rfl, rfl, rfl, rfl, ⟨by go_grown, ?_, ?_, ?_, ⟨madeCells #[.float .f64 0] n, ?_, fun i hi => by rw [Nat.zero_add, made_cell hi]; simp [Nat.mod_one]⟩, ⟨madeCells #[.float .f64 0] n, ?_, fun i hi => by rw [Nat.zero_add, made_cell hi]; simp [Nat.mod_one]⟩, by omega, by omega, by omega⟩⟩ <;> (show Blk _ _ _ _; repeat (first | exact Blk.new rfl | (apply Blk.new; simp; done) | refine Blk.drew ?_ | refine Blk.alloc ?_ _))
  case rest =>
    obtain ⟨px, py, gx, gy, rfl, rfl, rfl, rfl, hs⟩ := hcut
    have S0 : Hid (S6 w wc px py gx gy n (upTo 0 (fun i => G i 0)) (upTo 0 (fun i => G i 1))) := hs.congr (fun i _ => by simp [upTo]) (fun i _ => by simp [upTo])
    clear hs hmk
    go_wp2_with fail
    go_loopw [25] (fun i wx => ∃ k : Nat, k ≤ n ∧ i = .int .i64 (k : Int) ∧ Hid (S6 w wx px py gx gy n (upTo k (fun i => G i 0)) (upTo k (fun i => G i 1)))) (fun i _ => n - (intOf i).toNat)
    case atStart => exact ⟨0, Nat.zero_le _, rfl, S0⟩
    case round =>
      clear S0
      obtain ⟨k, hk, rfl, HK⟩ := hrel
      by_cases hkn : k < n
      · have hkI : (k : Int) < n := by omega
        have g1 : wr.cell? ⟨bi, off + k * 2, none⟩ = some (.float .f64 (G k 0)) := (HK.out.be.cell (World.block_lt_of_cell? _ _ (HC.out k hkn 0 (by omega)))).trans (HC.out k hkn 0 (by omega))
        have g2 : wr.cell? ⟨bi, off + k * 2 + 1, none⟩ = some (.float .f64 (G k 1)) := (HK.out.be.cell (World.block_lt_of_cell? _ _ (HC.out k hkn 1 (by omega)))).trans (HC.out k hkn 1 (by omega))
        have p1 := HK.out.bx.cell (j := 0) (v := .slice (some ⟨gx, 0, none⟩) n n) rfl
        have p2 := HK.out.by'.cell (j := 0) (v := .slice (some ⟨gy, 0, none⟩) n n) rfl
        have x1 := HK.out.sx.cell hkn
        have x2 := HK.out.sy.cell hkn
        rw [Nat.zero_add] at x1 x2
        have y1 := HK.out.sx.frozen k
        have y2 := HK.out.sy.frozen k
        have ne1 : gx ≠ gy := HK.out.ne
        have ne2 : ¬ gy = gx := fun e => HK.out.ne e.symm
        have n1 : ¬ px = gx := HK.out.sx.neB HK.out.bx (by decide)
        have n2 : ¬ py = gx := HK.out.sx.neB HK.out.by' (by decide)
        have n3 : ¬ px = gy := HK.out.sy.neB HK.out.bx (by decide)
        have n4 : ¬ py = gy := HK.out.sy.neB HK.out.by' (by decide)
        have n5 : ¬ bi = gx := fun e => by have h1 := World.block_lt_of_cell? _ _ (HC.out k hkn 0 (by omega)); have h2 := HK.out.lx; simp at h1; omega
        have n6 : ¬ bi = gy := fun e => by have h1 := World.block_lt_of_cell? _ _ (HC.out k hkn 0 (by omega)); have h2 := HK.out.ly; simp at h1; omega
        go_wp2_with fail
        go_region
        have HN : Hid (S6 w ((wr.setCell ⟨gx, k, none⟩ (.float .f64 (G k 0))).setCell ⟨gy, k, none⟩ (.float .f64 (G k 1))).drew px py gx gy n (upTo (k + 1) (fun i => G i 0)) (upTo (k + 1) (fun i => G i 1))) :=
          (((HK.out.setX hkn (G k 0)).swap.setX hkn (G k 1)).swap.drew).congr (fun i _ => upTo_succ k (fun i => G i 0) i) (fun i _ => upTo_succ k (fun i => G i 1) i)
        obtain ⟨wn, hwn⟩ : ∃ W, W = ((wr.setCell ⟨gx, k, none⟩ (.float .f64 (G k 0))).setCell ⟨gy, k, none⟩ (.float .f64 (G k 1))).drew := ⟨_, rfl⟩
        rw [← hwn] at HN ⊢
        clear hwn HK g1 g2 p1 p2 x1 x2 y1 y2
        go_wp2
        exact ⟨⟨k + 1, by omega, by simp, HN⟩, by simp [intOf]; omega⟩
      · obtain rfl : k = n := by omega
        have hkI : ¬ (k : Int) < k := by omega
        have KK : Hid (S6 w wr px py gx gy k (fun i => G i 0) (fun i => G i 1)) := HK.out.congr (fun i hi => by simp [upTo, hi]) (fun i hi => by simp [upTo, hi])
        clear HK HC
        have p1 := KK.out.bx.cell (j := 0) (v := .slice (some ⟨gx, 0, none⟩) k k) rfl
        have hmf : ∀ (fn : Fn) (first cap : Array Value) (w : World), (Instr.makeFunc fn first cap).run Try.prog w = .ok (.func fn first cap) w := fun _ _ _ _ => rfl
        go_wp2_with fail
        refine (iSum_any gx 0 k k (fun i => G i 0) wr (by omega) (fun i hi => by have h := KK.out.sx.cell hi; simpa using h) (fun i hi => HG.out i hi 0 (by omega))).mono ?_
        rintro e w1 ⟨s1, rfl, f1, b1⟩
        have A1 : Hid (Below wr.heap.size wr w1 ∧ Fc s1 (fsumC (fun i => G i 0) k)) := ⟨b1, f1⟩
        clear b1 f1 p1
        obtain ⟨m1, qm1, r1, fm1⟩ := flop .quo (by simp) A1.out.2 (fc_own (mk_lt (k : Int))) w1
        obtain ⟨w2, hw2⟩ : ∃ X, X = w1.drewN qm1 := ⟨_, rfl⟩
        rw [← hw2] at r1
        have Dw2 : Hid (Below w1.heap.size w1 w2) := by show Below _ _ _; rw [hw2]; exact below_drewN (Below.refl _ _) _
        have Fm1 : Hid (Fc m1 _) := fm1
        clear hw2 fm1
        have B2 : Hid (Below wr.heap.size wr w2) := A1.out.1.trans (Dw2.out.mono A1.out.1.size)
        obtain ⟨w3, hw3⟩ : ∃ W, W = w2.alloc (.cells #[.float .f64 m1] 24) := ⟨_, rfl⟩
        have B3 : Hid (Below wr.heap.size wr w3) := by show Below _ _ _; rw [hw3]; exact B2.out.alloc B2.out.size _
        have KX : Hid (Blk w3 w2.heap.size #[.float .f64 m1] 24) := by show Blk _ _ _ _; rw [hw3]; exact Blk.new rfl
        go_upto_region 13 with fail
        rw [← hw3]
        clear hw3 r1
        have p2 := (KK.out.by'.old B3.out).cell (j := 0) (v := .slice (some ⟨gy, 0, none⟩) k k) rfl
        go_wp2_with fail
        refine (iSum_any gy 0 k k (fun i => G i 1) w3 (by omega) (fun i hi => by have h := (KK.out.sy.below B3.out).cell hi; simpa using h) (fun i hi => HG.out i hi 1 (by omega))).mono ?_
        rintro e w4 ⟨s2, rfl, f2, b2⟩
        have A4 : Hid (Below w3.heap.size w3 w4 ∧ Fc s2 (fsumC (fun i => G i 1) k)) := ⟨b2, f2⟩
        clear b2 f2 p2
        obtain ⟨m2, qm2, r2, fm2⟩ := flop .quo (by simp) A4.out.2 (fc_own (mk_lt (k : Int))) w4
        obtain ⟨w5, hw5⟩ : ∃ X, X = w4.drewN qm2 := ⟨_, rfl⟩
        rw [← hw5] at r2
        have Dw5 : Hid (Below w4.heap.size w4 w5) := by show Below _ _ _; rw [hw5]; exact below_drewN (Below.refl _ _) _
        have Fm2 : Hid (Fc m2 _) := fm2
        clear hw5 fm2
        have B5 : Hid (Below w3.heap.size w3 w5) := A4.out.1.trans (Dw5.out.mono A4.out.1.size)
        obtain ⟨w6, hw6⟩ : ∃ W, W = w5.alloc (.cells #[.float .f64 m2] 24) := ⟨_, rfl⟩
        have B6 : Hid (Below w3.heap.size w3 w6) := by show Below _ _ _; rw [hw6]; exact B5.out.alloc B5.out.size _
        have KY : Hid (Blk w6 w5.heap.size #[.float .f64 m2] 24) := by show Blk _ _ _ _; rw [hw6]; exact Blk.new rfl
        go_upto_region 14 with fail
        rw [← hw6]
        clear hw6 r2
        have B7 : Hid (Below wr.heap.size wr w6) := B3.out.trans (B6.out.mono B3.out.size)
        have CT : Hid (Ct w6 px w2.heap.size py w5.heap.size gx gy k G m1 m2) := ⟨(KK.out.bx.old B7.out).cell (j := 0) rfl, (KK.out.by'.old B7.out).cell (j := 0) rfl, (KX.out.old B6.out).cell (j := 0) rfl, KY.out.cell (j := 0) rfl, fun i hi => by have h := (KK.out.sx.below B7.out).cell hi; simpa using h, fun i hi => by have h := (KK.out.sy.below B7.out).cell hi; simpa using h⟩
        have MX : Hid (Fc m1 (mnC (fun i => G i 0) k) ∧ Fc m2 (mnC (fun i => G i 1) k)) := ⟨Fm1.out, Fm2.out⟩
        go_wp2_with fail
        refine (rootOf_any CT.out MX.out.1 MX.out.2 HG.out hn).mono ?_
        rintro e w7 ⟨rt, rfl, ft, b7⟩
        have R7 := (KK.out.res.old B7.out).old b7
        have FT : Hid (Fc rt (rmC G (mnC (fun i => G i 0) k) (mnC (fun i => G i 1) k) k) ∧ Below w.heap.size w w7) := ⟨ft, (KK.out.be.trans (B7.out.mono KK.out.be.size)).trans (b7.mono (Nat.le_trans KK.out.be.size B7.out.size))⟩
        have c1 := (CT.out.later b7).cX
        have c2 := (CT.out.later b7).cY
        have d0 := R7.cell (j := 0) (v := .int .i64 0) rfl
        have d1 := R7.cell (j := 1) (v := .float .f64 0) rfl
        have d2 := R7.cell (j := 2) (v := .float .f64 0) rfl
        have d3 := R7.cell (j := 3) (v := .float .f64 0) rfl
        have e0 := R7.frozen 0
        have e1 := R7.frozen 1
        have e2 := R7.frozen 2
        have e3 := R7.frozen 3
        clear R7 ft b7 CT KK KX KY B2 B3 B5 B6 B7 A1 A4 Dw2 Dw5 HG
        go_wp2
        refine bodyPost_ret (v := Sp 0 (r3 m1 m2 rt)) (by simp [results, Try.results13, go_sem, r3, d0, d1, d2, d3, e0, e1, e2, e3]) rfl ?_
        refine ⟨_, rfl, ?_, (((FT.out.2.setCell (Nat.le_refl _) _).setCell (Nat.le_refl _) _).setCell (Nat.le_refl _) _).setCell (Nat.le_refl _) _⟩
        intro l hl
        match l, hl with
        | 0, _ => exact MX.out.1
        | 1, _ => exact MX.out.2
        | 2, _ => exact FT.out.1
end Go.Proofs.Ytcmgafgboepllaa
