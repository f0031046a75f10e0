/- What is wrong with rules, by the program: a contract. -/
import Derived.Test.YtclnmikneomccaaUr
namespace Go.Proofs.Ytclnmikneomccaa
open Go.RowKit Go.Maps
set_option linter.unusedVariables false
set_option linter.unusedSimpArgs false
set_option maxRecDepth 20000 in
set_option maxHeartbeats 6400000 in
theorem iRules_any {w : World} {po : Option Addr} {m pc : Nat} {R : Nat → U.G} (h : U.Rsp w (.slice po m pc) m R) (hm : m ≤ 1048576) :
    Calls Try.prog 68 #[.slice po m pc] w fun e w' => e = .returned (.int .i64 (ucode R m)) ∧ Below w.heap.size w w' := by
  have HA : ∀ W, Below w.heap.size w W → Hid (U.Rsp W (.slice po m pc) m R) := fun W hb => h.later hb
  have hmI : (m : Int) ≤ 1048576 := by omega
  obtain ⟨C, hC⟩ : ∃ C, C = ucode R m := ⟨_, rfl⟩
  have HC : Hid (C = ucode R m) := hC
  rw [← hC]
  clear h hC
  by_cases hlong : 20 < m
  · have hs : Hid (C = 2) := by show C = 2; rw [HC.out]; unfold ucode; rw [if_pos hlong]
    have hlI : (20 : Int) < m := by omega
    clear HA
    go_enter Try.func68, Try.ntmps68
    go_wp2
    go_ret
    exact ⟨by rw [hs.out]; rfl, Below.refl _ _⟩
  have HU : Hid (ucode R m = fstN (fun k => uone (R k)) m) := by show _ = _; unfold ucode; rw [if_neg hlong]
  have hsI : (m : Int) ≤ 20 := by omega
  go_enter Try.func68, Try.ntmps68
  go_wp2_with fail
  go_loopw [11] (fun i wr => ∃ k : Nat, k ≤ m ∧ i = .int .i64 k ∧ Hid (fstN (fun k => uone (R k)) k = 0 ∧ Below w.heap.size w wr)) (fun i _ => m - (intOf i).toNat)
  case atStart => exact ⟨0, Nat.zero_le _, rfl, rfl, Below.refl _ _⟩
  case round =>
    obtain ⟨k, hk, rfl, HF⟩ := hrel
    by_cases hkn : k < m
    · have hkI : (k : Int) < m := by omega
      obtain ⟨b, off, hao, hc⟩ := (HA wr HF.out.2).out.at hkn
      subst hao
      obtain ⟨r, hr⟩ : ∃ r, r = R k := ⟨_, rfl⟩
      rw [← hr] at hc
      have c0 : wr.cell? ⟨b, off + k * 3, none⟩ = some (.int .i64 r.ly) := hc 0 (by omega)
      have c1 : wr.cell? ⟨b, off + k * 3 + 1, none⟩ = some (.int .i64 r.wd) := hc 1 (by omega)
      have c2 : wr.cell? ⟨b, off + k * 3 + 2, none⟩ = some (.int .i64 r.sp) := hc 2 (by omega)
      have hit : Hid (∀ q : Int, q ≠ 0 → uone r = q → C = q) := fun q hq e => by
        have e' : uone (R k) = q := by rw [← hr]; exact e
        rw [HC.out, HU.out]
        exact (fstN_hit HF.out.1 (by show uone (R k) ≠ 0; rw [e']; exact hq) hkn).trans e'
      have pass : Hid (uone r = 0 → fstN (fun k => uone (R k)) (k + 1) = 0) := fun e => fstN_next HF.out.1 (by show uone (R k) = 0; rw [← hr]; exact e)
      clear hc hr
      go_upto_region 6 with fail
      obtain ⟨wb, hwb⟩ : ∃ W, W = wr.alloc (.cells #[.int .i64 r.ly, .int .i64 r.wd, .int .i64 r.sp] 77) := ⟨_, rfl⟩
      obtain ⟨p4, h4⟩ : ∃ p, p = wr.heap.size := ⟨_, rfl⟩
      have HB : Hid (Blk wb p4 #[.int .i64 r.ly, .int .i64 r.wd, .int .i64 r.sp] 77 ∧ Below w.heap.size w wb) := ⟨by rw [hwb]; exact Blk.new h4, by rw [hwb]; exact box_stay HF.out.2 _⟩
      have KW : ∀ W, Below wb.heap.size wb W → W.cell? ⟨p4, 1, none⟩ = some (.int .i64 r.wd) := fun W h => (HB.out.1.old h).cell rfl
      have KS : ∀ W, Below wb.heap.size wb W → W.cell? ⟨p4, 2, none⟩ = some (.int .i64 r.sp) := fun W h => (HB.out.1.old h).cell rfl
      rw [← hwb, ← h4]
      clear hwb h4 c0 c1 c2
      refine wp_region_pr (by kernel_rfl) [15, 16, 17, 18, 19, 20, 21, 5] (fun i v W => match i with
        | 0 => Bnd W v (0) (1000) (3)
        | 1 => v = .pointer (some ⟨p4, 1, none⟩)
        | 2 => v = .int .i64 r.wd
        | 3 => v = .pointer (some ⟨p4, 2, none⟩)
        | 4 => v = .int .i64 r.sp
        | 5 => Lst W v 2 (fun i => if i = 0 then r.wd else r.sp)
        | 6 => v = .int .i64 ((if Mt.all (fun k => Mt.inR ((fun i => if i = 0 then r.wd else r.sp) k) (0) (1000)) 2 then 0 else 3))
        | 7 => v = .int .i64 (if Mt.all (fun k => Mt.inR ((fun i => if i = 0 then r.wd else r.sp) k) (0) (1000)) 2 then 0 else 3)
        | _ => True) (reg_ok (n := 26) (by decide +kernel)) ?_ ?_ ?_
      · intro i v W W2 h hb
        rcases (show i = 0 ∨ i = 1 ∨ i = 2 ∨ i = 3 ∨ i = 4 ∨ i = 5 ∨ i = 6 ∨ i = 7 ∨ 8 ≤ i by omega) with rfl | rfl | rfl | rfl | rfl | rfl | rfl | rfl | hbig
        · exact Bnd.later h hb
        · exact h
        · exact h
        · exact h
        · exact h
        · exact Lst.later h hb
        · exact h
        · exact h
        · match i, hbig with | k + 8, _ => exact trivial
      · intro i o ho b W hB hbase hdep K hK
        replace hK : Hid _ := hK
        have hlt : i < 8 := by have := (List.getElem?_eq_some_iff.1 ho).1; simpa using this
        have bse4 : b.tmps[4]?.getD undef = .pointer (some ⟨p4, 0, none⟩) := (hbase 4 (by decide)).trans rfl
        clear hbase
        rcases (show i = 0 ∨ i = 1 ∨ i = 2 ∨ i = 3 ∨ i = 4 ∨ i = 5 ∨ i = 6 ∨ i = 7 by omega) with rfl | rfl | rfl | rfl | rfl | rfl | rfl | rfl
        · simp at ho
          subst ho
          clear hdep
          go_simp
          go_at_call 93
          refine (between_any (0) (1000) (3) _).mono ?_
          rintro e W2 ⟨b1, b2, rfl, -, -, q1, q2, hb⟩
          exact hK.out _ _ hb ⟨b1, b2, rfl, q1, q2⟩
        · simp at ho
          subst ho
          clear hdep
          go_simp
          exact hK.out _ _ (Below.refl _ _) rfl
        · simp at ho
          subst ho
          have d1 := hdep ⟨1, .data⟩ (by simp) (by decide)
          replace d1 : (fun (v : Value) (W : World) => v = .pointer (some ⟨p4, 1, none⟩)) (b.tmps[16]?.getD undef) W := d1
          dsimp only at d1
          clear hdep
          have hc : W.cell? ⟨p4, 1, none⟩ = some (.int .i64 r.wd) := KW W hB
          go_simp
          exact hK.out _ _ (Below.refl _ _) rfl
        · simp at ho
          subst ho
          clear hdep
          go_simp
          exact hK.out _ _ (Below.refl _ _) rfl
        · simp at ho
          subst ho
          have d3 := hdep ⟨3, .data⟩ (by simp) (by decide)
          replace d3 : (fun (v : Value) (W : World) => v = .pointer (some ⟨p4, 2, none⟩)) (b.tmps[18]?.getD undef) W := d3
          dsimp only at d3
          clear hdep
          have hc : W.cell? ⟨p4, 2, none⟩ = some (.int .i64 r.sp) := KS W hB
          go_simp
          exact hK.out _ _ (Below.refl _ _) rfl
        · simp at ho
          subst ho
          have d2 := hdep ⟨2, .data⟩ (by simp) (by decide)
          replace d2 : (fun (v : Value) (W : World) => v = .int .i64 r.wd) (b.tmps[17]?.getD undef) W := d2
          dsimp only at d2
          have d4 := hdep ⟨4, .data⟩ (by simp) (by decide)
          replace d4 : (fun (v : Value) (W : World) => v = .int .i64 r.sp) (b.tmps[19]?.getD undef) W := d4
          dsimp only at d4
          clear hdep
          go_simp
          refine hK.out _ _ ((Below.refl _ _).alloc (Nat.le_refl _) _) ⟨_, rfl, fun i hi => ?_⟩
          rcases (show i = 0 ∨ i = 1 by omega) with rfl | rfl <;> (go_simp; try rfl)
        · simp at ho
          subst ho
          have d0 := hdep ⟨0, .data⟩ (by simp) (by decide)
          replace d0 : (fun (v : Value) (W : World) => Bnd W v (0) (1000) (3)) (b.tmps[15]?.getD undef) W := d0
          dsimp only at d0
          have d5 := hdep ⟨5, .data⟩ (by simp) (by decide)
          replace d5 : (fun (v : Value) (W : World) => Lst W v 2 (fun i => if i = 0 then r.wd else r.sp)) (b.tmps[20]?.getD undef) W := d5
          dsimp only at d5
          clear hdep
          obtain ⟨lb, el, hl⟩ := d5
          have hr : RdRow W (.slice (some ⟨lb, 0, none⟩) 2 2) 2 (fun i => if i = 0 then r.wd else r.sp) := Lst.rd ⟨lb, rfl, hl⟩
          clear hl
          obtain ⟨bv, hbv⟩ : ∃ v, v = b.tmps[15]?.getD undef := ⟨_, rfl⟩
          rw [← hbv] at d0
          replace hbv := hbv.symm
          go_simp
          go_at_call 94
          refine (fault_any d0 hr (by omega)).mono ?_
          rintro e W2 ⟨rfl, hb⟩
          exact hK.out _ _ hb rfl
        · simp at ho
          subst ho
          have d6 := hdep ⟨6, .data⟩ (by simp) (by decide)
          replace d6 : (fun (v : Value) (W : World) => v = .int .i64 ((if Mt.all (fun k => Mt.inR ((fun i => if i = 0 then r.wd else r.sp) k) (0) (1000)) 2 then 0 else 3))) (b.tmps[21]?.getD undef) W := d6
          dsimp only at d6
          clear hdep
          go_simp
          exact hK.out _ _ (Below.refl _ _) rfl
      · intro vs W hB hP
        have v7 := hP 7 (by decide)
        replace v7 : (fun (v : Value) (W : World) => v = .int .i64 (if Mt.all (fun k => Mt.inR ((fun i => if i = 0 then r.wd else r.sp) k) (0) (1000)) 2 then 0 else 3)) (vs 7) W := v7
        dsimp only at v7
        clear hP
        simp only [putD, Act.put, List.setIfInBounds_toArray, List.set_cons_succ, List.set_cons_zero, Nat.reduceAdd]
        have hq0 : uone r = (if Mt.all (fun k => Mt.inR ((fun i => if i = 0 then r.wd else r.sp) k) (0) (1000)) 2 then 0 else 3) := rfl
        obtain ⟨q, hq⟩ : ∃ q : Int, q = (if Mt.all (fun k => Mt.inR ((fun i => if i = 0 then r.wd else r.sp) k) (0) (1000)) 2 then 0 else 3) := ⟨_, rfl⟩
        rw [← hq] at v7
        rw [v7]
        rw [← hq] at hq0
        have HW : Hid (Below w.heap.size w W) := HB.out.2.trans (hB.mono HB.out.2.size)
        clear hB KW KS hq v7
        by_cases e0 : q = 0
        · have hs := pass.out (by rw [hq0]; exact e0)
          replace hs : Hid _ := hs
          subst e0
          clear hq0
          go_wp2
          go_roundw
          case rel => exact ⟨k + 1, by omega, by simp, hs.out, HW.out⟩
          case measure => simp [intOf]; omega
        · have hs : Hid (C = q) := hit.out q e0 hq0
          have e0b : (q != 0) = true := by simpa using e0
          clear hq0
          go_wp2
          go_ret
          exact ⟨by rw [hs.out]; rfl, HW.out⟩
    · obtain rfl : m = k := by omega
      have hs : Hid (C = 0) := by show C = 0; rw [HC.out, HU.out, HF.out.1]
      clear HA
      go_wp2
      go_ret
      exact ⟨by rw [hs.out]; rfl, HF.out.2⟩
end Go.Proofs.Ytclnmikneomccaa
