/- What is wrong with one guard, in the program: contracts. -/
import Derived.Test.YtinfbbbgfkaioaaGd
import Derived.Test.YtinfbbbgfkaioaaLd
import Derived.BigRegion
namespace Go.Proofs.Ytinfbbbgfkaioaa
open Go.RowKit
set_option linter.unusedVariables false
set_option linter.unusedSimpArgs false
/-- Whether the lights of places a and b can't be a guard's. -/
def gbad (L : Nat → Li) (G : Nat → Gu) (ka : Nat) (g : Gu) (a b : Nat) : Bool :=
  ((a : Int) == (b : Int)) || gin G g.wk ka || gin G g.sp ka || ((L a).fr != (L b).fr) || ((L a).tt != (L b).tt) || com (L a).p (L a).np (L b).p (L b).np
/-- What is wrong with one guard. -/
def gcd (L : Nat → Li) (n : Nat) (G : Nat → Gu) (ka : Nat) (g : Gu) : Int :=
  if fnd L g.wk n < 0 ∨ fnd L g.sp n < 0 then 4 else if gbad L G ka g (fnd L g.wk n).toNat (fnd L g.sp n).toNat = true then 1 else 0
theorem com_self {p : Nat → Int} {m : Nat} (h : 0 < m) : com p m p m = true := Nt.any_hit (k := 0) h (Nt.any_hit (q := fun k => p k == p 0) (k := 0) h (by simp))
theorem gcd_four {L : Nat → Li} {n : Nat} {G : Nat → Gu} {ka : Nat} {g : Gu} (h : fnd L g.wk n = -1 ∨ fnd L g.sp n = -1) : gcd L n G ka g = 4 := by
  unfold gcd
  rw [if_pos (by omega)]
theorem gcd_at {L : Nat → Li} {n : Nat} {G : Nat → Gu} {ka : Nat} {g : Gu} {a b : Nat} (ha : fnd L g.wk n = a) (hb : fnd L g.sp n = b) : gcd L n G ka g = if gbad L G ka g a b = true then 1 else 0 := by
  unfold gcd
  rw [ha, hb, if_neg (by omega)]
  rfl
theorem gcd_one {L : Nat → Li} {n : Nat} {G : Nat → Gu} {ka : Nat} {g : Gu} {a b : Nat} (ha : fnd L g.wk n = a) (hb : fnd L g.sp n = b) (h : gbad L G ka g a b = true) : gcd L n G ka g = 1 := by rw [gcd_at ha hb, if_pos h]
theorem gcd_nil {L : Nat → Li} {n : Nat} {G : Nat → Gu} {ka : Nat} {g : Gu} {a b : Nat} (ha : fnd L g.wk n = a) (hb : fnd L g.sp n = b) (h : gbad L G ka g a b = false) : gcd L n G ka g = 0 := by rw [gcd_at ha hb, if_neg (by rw [h]; simp)]
theorem gbad_eq {L : Nat → Li} {G : Nat → Gu} {ka : Nat} {g : Gu} {a b : Nat} {x y : Li} (hx : x = L a) (hy : y = L b) (ha : x.id = g.wk) (hb : y.id = g.sp) (hp : 0 < x.np) :
    gbad L G ka g a b = (gin G x.id ka || gin G y.id ka || (x.fr != y.fr) || (x.tt != y.tt) || com x.p x.np y.p y.np) := by
  subst hx
  subst hy
  unfold gbad
  rw [ha, hb]
  by_cases e : a = b
  · subst e
    simp [com_self hp]
  · have h : ((a : Int) == (b : Int)) = false := by
      rw [beq_eq_false_iff_ne]
      omega
    rw [h, Bool.false_or]
set_option maxRecDepth 20000 in
set_option maxHeartbeats 3200000 in
theorem iGf_any {w : World} {lo ga : Option Addr} {n cl ka ca : Nat} {L : Nat → Li} {G : Nat → Gu} (g : Gu) (hl : RdL w (.slice lo n cl) n L) (hg : Rg w (.slice ga ka ca) ka G) (hw : LFew n L) (hp : ∀ i, i < n → 0 < (L i).np) (hk : ka ≤ 1048576) :
    Calls Try.prog 104 #[.slice lo n cl, .slice ga ka ca, .agg #[.int .i64 g.wk, .int .i64 g.sp]] w fun e w' => e = .returned (.int .i64 (gcd L n G ka g)) ∧ Below w.heap.size w w' := by
  obtain ⟨X, hX⟩ : ∃ X, X = (w.alloc (.cells #[.int .i64 g.wk, .int .i64 g.sp] 77)) := ⟨_, rfl⟩
  have BX : Hid (Blk X w.heap.size #[.int .i64 g.wk, .int .i64 g.sp] 77 ∧ Below w.heap.size w X) := by rw [hX]; exact ⟨Blk.new rfl, (Below.refl _ _).alloc (Nat.le_refl _) _⟩
  have hXz : w.heap.size ≤ X.heap.size := Nat.le_of_lt BX.out.1.lt
  have hnI : (n : Int) ≤ 1048576 := by have := hw.cn; omega
  have H : ∀ W, Below X.heap.size X W → Hid (RdL W (.slice lo n cl) n L ∧ Rg W (.slice ga ka ca) ka G) := fun W hb => ⟨hl.later (BX.out.2.trans (hb.mono hXz)), hg.later (BX.out.2.trans (hb.mono hXz))⟩
  have HW : Hid (LFew n L ∧ (∀ i, i < n → 0 < (L i).np) ∧ ka ≤ 1048576) := ⟨hw, hp, hk⟩
  clear hl hg hw hp hk
  obtain ⟨fa, hfa⟩ : ∃ c, c = fnd L g.wk n := ⟨_, rfl⟩
  obtain ⟨fb, hfb⟩ : ∃ c, c = fnd L g.sp n := ⟨_, rfl⟩
  have HA : ∀ x : Kept X.heap.size X, Calls Try.prog 72 #[.slice lo n cl, .int .i64 g.wk] x.w fun e w' => e = .returned (.int .i64 fa) ∧ Below x.w.heap.size x.w w' := fun x => by rw [hfa]; exact iAt_any g.wk (H _ x.h).out.1 (by omega)
  have HB : ∀ x : Kept X.heap.size X, Calls Try.prog 72 #[.slice lo n cl, .int .i64 g.sp] x.w fun e w' => e = .returned (.int .i64 fb) ∧ Below x.w.heap.size x.w w' := fun x => by rw [hfb]; exact iAt_any g.sp (H _ x.h).out.1 (by omega)
  have HF : Hid (fa = fnd L g.wk n ∧ fb = fnd L g.sp n) := ⟨hfa, hfb⟩
  have K0 : ∀ x : Kept X.heap.size X, x.w.cell? ⟨w.heap.size, 0, none⟩ = some (.int .i64 g.wk) := fun x => (BX.out.1.old x.h).cell rfl
  have K1 : ∀ x : Kept X.heap.size X, x.w.cell? ⟨w.heap.size, 1, none⟩ = some (.int .i64 g.sp) := fun x => (BX.out.1.old x.h).cell rfl
  clear hfa hfb
  go_enter Try.func104, Try.ntmps104
  go_upto_region 1 with fail
  rw [← hX]
  clear hX
  refine wp_region_kept X.heap.size (by kernel_rfl) (by kernel_rfl) ?_
  intro hne
  repeat (go_big_quiet_step (first | (go_at_call 72; with_reducible exact Calls.kept_of (Nat.le_refl _) (HA _)) | (go_at_call 72; with_reducible exact Calls.kept_of (Nat.le_refl _) (HB _))))
  refine wpQuiet_nil ?_
  rintro u ⟨xk, hxk⟩
  have hR1 := xk.h
  rw [← hxk] at hR1
  have HU : Hid (Below X.heap.size X u) := hR1
  clear hxk xk hne K0 K1 HA HB hR1
  by_cases ea : fa = -1
  · have HR : Hid (gcd L n G ka g = 4) := gcd_four (Or.inl (HF.out.1 ▸ ea))
    rw [ea]
    go_wp2
    go_ret
    exact ⟨by rw [HR.out]; rfl, BX.out.2.trans (HU.out.mono hXz)⟩
  by_cases eb : fb = -1
  · have HR : Hid (gcd L n G ka g = 4) := gcd_four (Or.inr (HF.out.2 ▸ eb))
    have hfa0 : ¬ fa < 0 := by
      obtain ⟨k, _, h1, _⟩ := fnd_is (HF.out.1 ▸ ea)
      rw [HF.out.1, h1]; omega
    have hfa1 : decide (fa < 0) = false := by simpa using hfa0
    rw [eb]
    clear ea
    go_wp2
    go_ret
    exact ⟨by rw [HR.out]; rfl, BX.out.2.trans (HU.out.mono hXz)⟩
  obtain ⟨a, han, h1, hia⟩ := fnd_is (HF.out.1 ▸ ea)
  obtain ⟨b, hbn, h2, hib⟩ := fnd_is (HF.out.2 ▸ eb)
  obtain rfl : fa = (a : Int) := HF.out.1.trans h1
  obtain rfl : fb = (b : Int) := HF.out.2.trans h2
  have HI : Hid (fnd L g.wk n = a ∧ fnd L g.sp n = b ∧ (L a).id = g.wk ∧ (L b).id = g.sp) := ⟨h1, h2, hia, hib⟩
  clear ea eb h1 h2 hia hib HF
  obtain ⟨B, off, po, pc, rfl, hca, hra⟩ := (H u HU.out).out.1.at han
  obtain ⟨B2, off2, qo, qc, e2, hcb, hrb⟩ := (H u HU.out).out.1.at hbn
  simp only [Option.some.injEq, Addr.mk.injEq] at e2
  obtain ⟨rfl, rfl, _⟩ := e2
  obtain ⟨x, hx⟩ : ∃ x, x = L a := ⟨_, rfl⟩
  obtain ⟨y, hy⟩ : ∃ y, y = L b := ⟨_, rfl⟩
  have HXY : Hid (x = L a ∧ y = L b) := ⟨hx, hy⟩
  have HP : ∀ W, Below u.heap.size u W → Hid (RdRow W (.slice po x.np pc) x.np x.p ∧ RdRow W (.slice qo y.np qc) y.np y.p ∧ Rg W (.slice ga ka ca) ka G) := fun W hb => ⟨by rw [hx]; exact hra.later hb, by rw [hy]; exact hrb.later hb, (H W (HU.out.trans (hb.mono HU.out.size))).out.2⟩
  have HN : Hid (x.np ≤ 1048576 ∧ y.np ≤ 1048576) := ⟨by rw [hx]; exact HW.out.1.each han, by rw [hy]; exact HW.out.1.each hbn⟩
  have hanI : (a : Int) < n := by omega
  have hbnI : (b : Int) < n := by omega
  have a0 : u.cell? ⟨B, off + a * 6, none⟩ = some (.int .i64 x.id) := by rw [hx]; exact hca 0 (by omega)
  have b0 : u.cell? ⟨B, off + b * 6, none⟩ = some (.int .i64 y.id) := by rw [hy]; exact hcb 0 (by omega)
  have a1 : u.cell? ⟨B, off + a * 6 + 1, none⟩ = some (.int .i64 x.fr) := by rw [hx]; exact hca 1 (by omega)
  have b1 : u.cell? ⟨B, off + b * 6 + 1, none⟩ = some (.int .i64 y.fr) := by rw [hy]; exact hcb 1 (by omega)
  have a2 : u.cell? ⟨B, off + a * 6 + 2, none⟩ = some (.int .i64 x.tt) := by rw [hx]; exact hca 2 (by omega)
  have b2 : u.cell? ⟨B, off + b * 6 + 2, none⟩ = some (.int .i64 y.tt) := by rw [hy]; exact hcb 2 (by omega)
  have a3 : u.cell? ⟨B, off + a * 6 + 3, none⟩ = some (.slice po x.np pc) := by rw [hx]; exact hca 3 (by omega)
  have b3 : u.cell? ⟨B, off + b * 6 + 3, none⟩ = some (.slice qo y.np qc) := by rw [hy]; exact hcb 3 (by omega)
  have a4 : u.cell? ⟨B, off + a * 6 + 4, none⟩ = some (.int .i64 x.fi) := by rw [hx]; exact hca 4 (by omega)
  have b4 : u.cell? ⟨B, off + b * 6 + 4, none⟩ = some (.int .i64 y.fi) := by rw [hy]; exact hcb 4 (by omega)
  have a5 : u.cell? ⟨B, off + a * 6 + 5, none⟩ = some (.int .i64 x.wd) := by rw [hx]; exact hca 5 (by omega)
  have b5 : u.cell? ⟨B, off + b * 6 + 5, none⟩ = some (.int .i64 y.wd) := by rw [hy]; exact hcb 5 (by omega)
  have hBu : B < u.heap.size := World.block_lt_of_cell? _ _ a0
  clear hx hy hca hcb hra hrb H
  go_upto_region 4 with fail
  go_cut [9, 10] (fun p q wx => ∃ (i j : Nat), p = .pointer (some ⟨i, 0, none⟩) ∧ q = .pointer (some ⟨j, 0, none⟩) ∧ Hid (Blk wx i #[.int .i64 x.id, .int .i64 x.fr, .int .i64 x.tt, .slice po x.np pc, .int .i64 x.fi, .int .i64 x.wd] 80 ∧ Blk wx j #[.int .i64 y.id, .int .i64 y.fr, .int .i64 y.tt, .slice qo y.np qc, .int .i64 y.fi, .int .i64 y.wd] 80 ∧ Below u.heap.size u wx))
  case first =>
    clear HP HXY HI HN HW HU BX
    go_region
    all_goals
      go_wp2_with fail
      go_meet
      case rel =>
        first
          | exact ⟨u.heap.size, u.heap.size + 1, rfl, rfl, ((Blk.new rfl).alloc _).drew, (Blk.new (by simp)).drew, (((Below.refl _ _).alloc (Nat.le_refl _) _).alloc (by simp) _).drew⟩
          | exact ⟨u.heap.size + 1, u.heap.size, rfl, rfl, (Blk.new (by simp)).drew, ((Blk.new rfl).alloc _).drew, (((Below.refl _ _).alloc (Nat.le_refl _) _).alloc (by simp) _).drew⟩
  case rest =>
    obtain ⟨i, j, rfl, rfl, HC⟩ := hcut
    have CF : ∀ W, Below wc.heap.size wc W → W.cell? ⟨i, 0, none⟩ = some (.int .i64 x.id) ∧ W.cell? ⟨i, 1, none⟩ = some (.int .i64 x.fr) ∧ W.cell? ⟨i, 2, none⟩ = some (.int .i64 x.tt) ∧ W.cell? ⟨i, 3, none⟩ = some (.slice po x.np pc) ∧ W.cell? ⟨j, 0, none⟩ = some (.int .i64 y.id) ∧ W.cell? ⟨j, 1, none⟩ = some (.int .i64 y.fr) ∧ W.cell? ⟨j, 2, none⟩ = some (.int .i64 y.tt) ∧ W.cell? ⟨j, 3, none⟩ = some (.slice qo y.np qc) := fun W hb => by
      obtain ⟨q1, q2, q3⟩ := HC.out
      exact ⟨(q1.old hb).cell rfl, (q1.old hb).cell rfl, (q1.old hb).cell rfl, (q1.old hb).cell rfl, (q2.old hb).cell rfl, (q2.old hb).cell rfl, (q2.old hb).cell rfl, (q2.old hb).cell rfl⟩
    have HQ : ∀ W, Below wc.heap.size wc W → Hid (RdRow W (.slice po x.np pc) x.np x.p ∧ RdRow W (.slice qo y.np qc) y.np y.p ∧ Rg W (.slice ga ka ca) ka G) := fun W hb => HP W (HC.out.2.2.trans (hb.mono HC.out.2.2.size))
    have HE : Hid (gbad L G ka g a b = (gin G x.id ka || gin G y.id ka || (x.fr != y.fr) || (x.tt != y.tt) || com x.p x.np y.p y.np)) := gbad_eq HXY.out.1 HXY.out.2 (by rw [HXY.out.1]; exact HI.out.2.2.1) (by rw [HXY.out.2]; exact HI.out.2.2.2) (by rw [HXY.out.1]; exact HW.out.2.1 a han)
    have FIN : ∀ W, Below wc.heap.size wc W → Hid (Below w.heap.size w W) := fun W hZ => BX.out.2.trans ((HU.out.trans ((HC.out.2.2.trans (hZ.mono HC.out.2.2.size)).mono HU.out.size)).mono hXz)
    have hZ : Below wc.heap.size wc wc := Below.refl _ _
    obtain ⟨c0, c1, c2, c3, d0, d1, d2, d3⟩ := CF wc hZ
    clear HP a0 a1 a2 a3 a4 a5 b0 b1 b2 b3 b4 b5
    cases q1 : gin G x.id ka with
    | true =>
      have HR : Hid (gcd L n G ka g = 1) := gcd_one HI.out.1 HI.out.2.1 (by rw [HE.out, q1]; simp)
      go_wp2_with (first | (go_at_call 112; refine (iIn_any _ (HQ _ hZ).out.2.2 HW.out.2.2).mono ?_; rintro e w1 ⟨rfl, hb1⟩; rw [q1]; replace hZ : Below wc.heap.size wc w1 := box_step hZ hb1 (Nat.le_refl _); clear c0 c1 c2 c3 d0 d1 d2 d3; obtain ⟨c0, c1, c2, c3, d0, d1, d2, d3⟩ := CF w1 hZ))
      go_ret
      exact ⟨by rw [HR.out]; rfl, (FIN _ hZ).out⟩
    | false =>
      cases q2 : gin G y.id ka with
      | true =>
        have HR : Hid (gcd L n G ka g = 1) := gcd_one HI.out.1 HI.out.2.1 (by rw [HE.out, q1, q2]; simp)
        go_wp2_with (first | (go_at_call 112; refine (iIn_any _ (HQ _ hZ).out.2.2 HW.out.2.2).mono ?_; rintro e w1 ⟨rfl, hb1⟩; (first | rw [q1] | rw [q2]); replace hZ : Below wc.heap.size wc w1 := box_step hZ hb1 (Nat.le_refl _); clear c0 c1 c2 c3 d0 d1 d2 d3; obtain ⟨c0, c1, c2, c3, d0, d1, d2, d3⟩ := CF w1 hZ))
        go_ret
        exact ⟨by rw [HR.out]; rfl, (FIN _ hZ).out⟩
      | false =>
        cases q3 : (x.fr != y.fr) with
        | true =>
          have HR : Hid (gcd L n G ka g = 1) := gcd_one HI.out.1 HI.out.2.1 (by rw [HE.out, q1, q2, q3]; simp)
          go_wp2_with (first | (go_at_call 112; refine (iIn_any _ (HQ _ hZ).out.2.2 HW.out.2.2).mono ?_; rintro e w1 ⟨rfl, hb1⟩; (first | rw [q1] | rw [q2]); replace hZ : Below wc.heap.size wc w1 := box_step hZ hb1 (Nat.le_refl _); clear c0 c1 c2 c3 d0 d1 d2 d3; obtain ⟨c0, c1, c2, c3, d0, d1, d2, d3⟩ := CF w1 hZ))
          go_ret
          exact ⟨by rw [HR.out]; rfl, (FIN _ hZ).out⟩
        | false =>
          cases q4 : (x.tt != y.tt) with
          | true =>
            have HR : Hid (gcd L n G ka g = 1) := gcd_one HI.out.1 HI.out.2.1 (by rw [HE.out, q1, q2, q3, q4]; simp)
            go_wp2_with (first | (go_at_call 112; refine (iIn_any _ (HQ _ hZ).out.2.2 HW.out.2.2).mono ?_; rintro e w1 ⟨rfl, hb1⟩; (first | rw [q1] | rw [q2]); replace hZ : Below wc.heap.size wc w1 := box_step hZ hb1 (Nat.le_refl _); clear c0 c1 c2 c3 d0 d1 d2 d3; obtain ⟨c0, c1, c2, c3, d0, d1, d2, d3⟩ := CF w1 hZ))
            go_ret
            exact ⟨by rw [HR.out]; rfl, (FIN _ hZ).out⟩
          | false =>
            cases q5 : com x.p x.np y.p y.np with
            | true =>
              have HR : Hid (gcd L n G ka g = 1) := gcd_one HI.out.1 HI.out.2.1 (by rw [HE.out, q1, q2, q3, q4, q5]; simp)
              go_wp2_with (first | (go_at_call 112; refine (iIn_any _ (HQ _ hZ).out.2.2 HW.out.2.2).mono ?_; rintro e w1 ⟨rfl, hb1⟩; (first | rw [q1] | rw [q2]); replace hZ : Below wc.heap.size wc w1 := box_step hZ hb1 (Nat.le_refl _); clear c0 c1 c2 c3 d0 d1 d2 d3; obtain ⟨c0, c1, c2, c3, d0, d1, d2, d3⟩ := CF w1 hZ) | (go_at_call 113; refine (iCom_any (HQ _ hZ).out.1 (HQ _ hZ).out.2.1 HN.out.1 HN.out.2).mono ?_; rintro e w1 ⟨rfl, hb1⟩; rw [q5]; replace hZ : Below wc.heap.size wc w1 := box_step hZ hb1 (Nat.le_refl _); clear c0 c1 c2 c3 d0 d1 d2 d3; obtain ⟨c0, c1, c2, c3, d0, d1, d2, d3⟩ := CF w1 hZ))
              go_ret
              exact ⟨by rw [HR.out]; rfl, (FIN _ hZ).out⟩
            | false =>
              have HR : Hid (gcd L n G ka g = 0) := gcd_nil HI.out.1 HI.out.2.1 (by rw [HE.out, q1, q2, q3, q4, q5]; simp)
              go_wp2_with (first | (go_at_call 112; refine (iIn_any _ (HQ _ hZ).out.2.2 HW.out.2.2).mono ?_; rintro e w1 ⟨rfl, hb1⟩; (first | rw [q1] | rw [q2]); replace hZ : Below wc.heap.size wc w1 := box_step hZ hb1 (Nat.le_refl _); clear c0 c1 c2 c3 d0 d1 d2 d3; obtain ⟨c0, c1, c2, c3, d0, d1, d2, d3⟩ := CF w1 hZ) | (go_at_call 113; refine (iCom_any (HQ _ hZ).out.1 (HQ _ hZ).out.2.1 HN.out.1 HN.out.2).mono ?_; rintro e w1 ⟨rfl, hb1⟩; rw [q5]; replace hZ : Below wc.heap.size wc w1 := box_step hZ hb1 (Nat.le_refl _); clear c0 c1 c2 c3 d0 d1 d2 d3; obtain ⟨c0, c1, c2, c3, d0, d1, d2, d3⟩ := CF w1 hZ))
              go_ret
              exact ⟨by rw [HR.out]; rfl, (FIN _ hZ).out⟩
end Go.Proofs.Ytinfbbbgfkaioaa
