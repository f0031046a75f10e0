/- Descend, the program's: a contract. -/
import Derived.Test.YtelejihgechmgaaTd
import Derived.Test.YtelejihgechmgaaSv
import Derived.Test.YtelejihgechmgaaRt
namespace Go.Proofs.Ytelejihgechmgaa
open Go.RowKit
set_option linter.unusedVariables false
set_option linter.unusedSimpArgs false
set_option maxRecDepth 20000 in
set_option maxHeartbeats 12800000 in
theorem iDesc_any {w : World} {ao qo : Option Addr} {n d cap qc : Nat} {L : Nat → Li} {x : Mt.Pnt} {s r c : Int} {ps : List Mt.Pnt} (hc : c = Mt.dcode L n d x s r) (hps : ps = Mt.dpath L n d x s r) (h : RdL w (.slice ao n cap) n L) (hp : RdRow w (.slice qo d qc) d x) (hn : n ≤ 1048576) (hd : d ≤ 1048576) :
    Calls Try.prog 38 #[.slice ao n cap, .slice qo d qc, .int .i64 s, .int .i64 r] w fun e w' => ∃ pv mv, e = .returned (.agg #[.int .i64 c, pv, mv]) ∧ OwD w.heap.size w'.heap.size w' c pv mv d ps (mers L n d ps) ∧ Below w.heap.size w w' := by
  have H : ∀ W, Below w.heap.size w W → Hid (RdL W (.slice ao n cap) n L ∧ RdRow W (.slice qo d qc) d x) := fun W hb => ⟨h.later hb, hp.later hb⟩
  have HC : Hid (c = Mt.dcode L n d x s r ∧ ps = Mt.dpath L n d x s r) := ⟨hc, hps⟩
  obtain ⟨q, hq⟩ : ∃ q, q = Mt.tcode L n d x := ⟨_, rfl⟩
  obtain ⟨m, hm⟩ : ∃ m, m = Mt.merit L n d x := ⟨_, rfl⟩
  obtain ⟨X, hX⟩ : ∃ X, X = w.alloc (.cells #[.int .i64 0, .slice none 0 0, .slice none 0 0] 55) := ⟨_, rfl⟩
  have BX : Hid (Blk X w.heap.size #[.int .i64 0, .slice none 0 0, .slice none 0 0] 55 ∧ Below w.heap.size w X) := by rw [hX]; exact ⟨Blk.new rfl, (Below.refl _ _).alloc (Nat.le_refl _) _⟩
  have hX1 : w.heap.size < X.heap.size := BX.out.1.lt
  have HM := iMerit_any hq hm (H X BX.out.2).out.1 (H X BX.out.2).out.2 hn hd
  have HQ : Hid (q = Mt.tcode L n d x ∧ m = Mt.merit L n d x) := ⟨hq, hm⟩
  have HN : Hid (n ≤ 1048576 ∧ d ≤ 1048576) := ⟨hn, hd⟩
  clear hc hps hq hm h hp hn hd
  go_enter Try.func38, Try.ntmps38
  go_wp2_with fail
  rw [← hX]
  clear hX
  go_upto_region 2 with (first | (go_at_call 35; refine HM.mono ?_; rintro e w1 ⟨rfl, hb1⟩))
  obtain ⟨W1, hW1⟩ : ∃ W, W = w1.alloc (.cells #[.int .i64 q, .int .i64 m] 36) := ⟨_, rfl⟩
  have BM : Hid (Blk W1 w1.heap.size #[.int .i64 q, .int .i64 m] 36) := by rw [hW1]; exact Blk.new rfl
  have HB1 : Hid (Below X.heap.size X W1 ∧ Blk W1 w.heap.size #[.int .i64 0, .slice none 0 0, .slice none 0 0] 55 ∧ Below w.heap.size w W1) := by
    have hb : Below X.heap.size X W1 := by rw [hW1]; exact hb1.alloc hb1.size _
    exact ⟨hb, BX.out.1.old hb, BX.out.2.trans (hb.mono (Nat.le_of_lt hX1))⟩
  have hne1 : w.heap.size ≠ w1.heap.size := by have := hb1.size; omega
  rw [← hW1]
  clear hW1 hb1 HM
  have HE : Hid (Mt.fst (Mt.at4 q (if Mt.inR s 1 1000 = true then (0 : Int) else 3) (if Mt.all (fun k => Mt.inR r (0) (200)) 1 then 0 else 3) 0) 3 = c) := by
    show Mt.fst _ 3 = c
    rw [Mt.fst3, HC.out.1, Mt.dcode, ← HQ.out.1]
    show (if q = 0 then (if (if Mt.inR s 1 1000 = true then (0 : Int) else 3) = 0 then (if Mt.all (fun k => Mt.inR r (0) (200)) 1 then 0 else 3) else (if Mt.inR s 1 1000 = true then (0 : Int) else 3)) else q) = _
    rw [Mt.all1]
    by_cases e0 : q = 0
    · rw [if_pos e0, if_pos e0]
      cases e1 : Mt.inR s 1 1000 <;> cases e2 : Mt.inR r 0 200 <;> simp [e1, e2]
    · rw [if_neg e0, if_neg e0]
  have KM : ∀ W, Below W1.heap.size W1 W → W.cell? ⟨w1.heap.size, 0, none⟩ = some (.int .i64 q) := fun W hb => (BM.out.old hb).cell rfl
  refine wp_region_pr (by kernel_rfl) [16, 17, 18, 19, 20, 21, 22, 23, 24, 25, 10] (fun i v W => match i with
    | 0 => v = .pointer (some ⟨w1.heap.size, 0, none⟩)
    | 1 => v = .int .i64 q
    | 2 => v = .int .i64 s
    | 3 => v = .int .i64 (if Mt.inR s 1 1000 = true then (0 : Int) else 3)
    | 4 => Bnd W v (0) (200) (3)
    | 5 => v = .int .i64 r
    | 6 => Lst W v 1 (fun _ => r)
    | 7 => v = .int .i64 ((if Mt.all (fun k => Mt.inR r (0) (200)) 1 then 0 else 3))
    | 8 => Lst W v 3 (Mt.at4 q (if Mt.inR s 1 1000 = true then (0 : Int) else 3) (if Mt.all (fun k => Mt.inR r (0) (200)) 1 then 0 else 3) 0)
    | 9 => v = .int .i64 (Mt.fst (Mt.at4 q (if Mt.inR s 1 1000 = true then (0 : Int) else 3) (if Mt.all (fun k => Mt.inR r (0) (200)) 1 then 0 else 3) 0) 3)
    | 10 => v = .int .i64 (Mt.fst (Mt.at4 q (if Mt.inR s 1 1000 = true then (0 : Int) else 3) (if Mt.all (fun k => Mt.inR r (0) (200)) 1 then 0 else 3) 0) 3)
    | _ => True) (reg_ok (n := 53) (by decide +kernel)) ?_ ?_ ?_
  · intro i v W W2 h hb
    rcases (show i = 0 ∨ i = 1 ∨ i = 2 ∨ i = 3 ∨ i = 4 ∨ i = 5 ∨ i = 6 ∨ i = 7 ∨ i = 8 ∨ i = 9 ∨ i = 10 ∨ 11 ≤ i by omega) with rfl | rfl | rfl | rfl | rfl | rfl | rfl | rfl | rfl | rfl | rfl | hbig
    · exact h
    · exact h
    · exact h
    · exact h
    · exact Bnd.later h hb
    · exact h
    · exact Lst.later h hb
    · exact h
    · exact Lst.later h hb
    · exact h
    · exact h
    · match i, hbig with | k + 11, _ => exact trivial
  · intro i o ho b W hB hbase hdep K hK
    replace hK : Hid _ := hK
    have hlt : i < 11 := by have := (List.getElem?_eq_some_iff.1 ho).1; simpa using this
    have bse9 : b.tmps[9]?.getD undef = .pointer (some ⟨w1.heap.size, 0, none⟩) := (hbase 9 (by decide)).trans rfl
    have bse2 : b.tmps[2]?.getD undef = .int .i64 s := (hbase 2 (by decide)).trans rfl
    have bse3 : b.tmps[3]?.getD undef = .int .i64 r := (hbase 3 (by decide)).trans rfl
    clear hbase
    rcases (show i = 0 ∨ i = 1 ∨ i = 2 ∨ i = 3 ∨ i = 4 ∨ i = 5 ∨ i = 6 ∨ i = 7 ∨ i = 8 ∨ i = 9 ∨ i = 10 by omega) with rfl | rfl | rfl | rfl | rfl | rfl | rfl | rfl | rfl | rfl | rfl
    · simp at ho
      subst ho
      clear hdep
      go_simp
      exact hK.out _ _ (Below.refl _ _) rfl
    · simp at ho
      subst ho
      have d0 := hdep ⟨0, .data⟩ (by simp) (by decide)
      replace d0 : (fun (v : Value) (W : World) => v = .pointer (some ⟨w1.heap.size, 0, none⟩)) (b.tmps[16]?.getD undef) W := d0
      dsimp only at d0
      clear hdep
      have hc : W.cell? ⟨w1.heap.size, 0, none⟩ = some (.int .i64 q) := KM W hB
      go_simp
      exact hK.out _ _ (Below.refl _ _) rfl
    · simp at ho
      subst ho
      clear hdep
      go_simp
      exact hK.out _ _ (Below.refl _ _) rfl
    · simp at ho
      subst ho
      have d2 := hdep ⟨2, .data⟩ (by simp) (by decide)
      replace d2 : (fun (v : Value) (W : World) => v = .int .i64 s) (b.tmps[18]?.getD undef) W := d2
      dsimp only at d2
      clear hdep
      go_simp
      go_at_call 74
      refine (iStepF_any (r := (if Mt.inR s 1 1000 = true then (0 : Int) else 3)) rfl W).mono ?_
      rintro e W2 ⟨rfl, hb⟩
      exact hK.out _ _ hb rfl
    · simp at ho
      subst ho
      clear hdep
      go_simp
      go_at_call 67
      refine (between_any (0) (200) (3) _).mono ?_
      rintro e W2 ⟨b1, b2, rfl, -, -, q1, q2, hb⟩
      exact hK.out _ _ hb ⟨b1, b2, rfl, q1, q2⟩
    · simp at ho
      subst ho
      clear hdep
      go_simp
      exact hK.out _ _ (Below.refl _ _) rfl
    · simp at ho
      subst ho
      have d5 := hdep ⟨5, .data⟩ (by simp) (by decide)
      replace d5 : (fun (v : Value) (W : World) => v = .int .i64 r) (b.tmps[21]?.getD undef) W := d5
      dsimp only at d5
      clear hdep
      go_simp
      refine hK.out _ _ ((Below.refl _ _).alloc (Nat.le_refl _) _) ⟨_, rfl, fun i hi => ?_⟩
      rcases (show i = 0 by omega) with rfl <;> (go_simp; try rfl)
    · simp at ho
      subst ho
      have d4 := hdep ⟨4, .data⟩ (by simp) (by decide)
      replace d4 : (fun (v : Value) (W : World) => Bnd W v (0) (200) (3)) (b.tmps[20]?.getD undef) W := d4
      dsimp only at d4
      have d6 := hdep ⟨6, .data⟩ (by simp) (by decide)
      replace d6 : (fun (v : Value) (W : World) => Lst W v 1 (fun _ => r)) (b.tmps[22]?.getD undef) W := d6
      dsimp only at d6
      clear hdep
      obtain ⟨lb, el, hl⟩ := d6
      have hr : RdRow W (.slice (some ⟨lb, 0, none⟩) 1 1) 1 (fun _ => r) := Lst.rd ⟨lb, rfl, hl⟩
      clear hl
      obtain ⟨bv, hbv⟩ : ∃ v, v = b.tmps[20]?.getD undef := ⟨_, rfl⟩
      rw [← hbv] at d4
      replace hbv := hbv.symm
      go_simp
      go_at_call 63
      refine (fault_any d4 hr (by omega)).mono ?_
      rintro e W2 ⟨rfl, hb⟩
      exact hK.out _ _ hb rfl
    · simp at ho
      subst ho
      have d1 := hdep ⟨1, .data⟩ (by simp) (by decide)
      replace d1 : (fun (v : Value) (W : World) => v = .int .i64 q) (b.tmps[17]?.getD undef) W := d1
      dsimp only at d1
      have d3 := hdep ⟨3, .data⟩ (by simp) (by decide)
      replace d3 : (fun (v : Value) (W : World) => v = .int .i64 (if Mt.inR s 1 1000 = true then (0 : Int) else 3)) (b.tmps[19]?.getD undef) W := d3
      dsimp only at d3
      have d7 := hdep ⟨7, .data⟩ (by simp) (by decide)
      replace d7 : (fun (v : Value) (W : World) => v = .int .i64 ((if Mt.all (fun k => Mt.inR r (0) (200)) 1 then 0 else 3))) (b.tmps[23]?.getD undef) W := d7
      dsimp only at d7
      clear hdep
      go_simp
      refine hK.out _ _ ((Below.refl _ _).alloc (Nat.le_refl _) _) ⟨_, rfl, fun i hi => ?_⟩
      rcases (show i = 0 ∨ i = 1 ∨ i = 2 by omega) with rfl | rfl | rfl <;> (go_simp; try rfl)
    · simp at ho
      subst ho
      have d8 := hdep ⟨8, .data⟩ (by simp) (by decide)
      replace d8 : (fun (v : Value) (W : World) => Lst W v 3 (Mt.at4 q (if Mt.inR s 1 1000 = true then (0 : Int) else 3) (if Mt.all (fun k => Mt.inR r (0) (200)) 1 then 0 else 3) 0)) (b.tmps[24]?.getD undef) W := d8
      dsimp only at d8
      clear hdep
      obtain ⟨lb, el, hl⟩ := d8
      have hr : RdRow W (.slice (some ⟨lb, 0, none⟩) 3 3) 3 (Mt.at4 q (if Mt.inR s 1 1000 = true then (0 : Int) else 3) (if Mt.all (fun k => Mt.inR r (0) (200)) 1 then 0 else 3) 0) := Lst.rd ⟨lb, rfl, hl⟩
      clear hl
      go_simp
      go_at_call 61
      refine (or_any hr (by omega)).mono ?_
      rintro e W2 ⟨rfl, hb⟩
      exact hK.out _ _ hb rfl
    · simp at ho
      subst ho
      have d9 := hdep ⟨9, .data⟩ (by simp) (by decide)
      replace d9 : (fun (v : Value) (W : World) => v = .int .i64 (Mt.fst (Mt.at4 q (if Mt.inR s 1 1000 = true then (0 : Int) else 3) (if Mt.all (fun k => Mt.inR r (0) (200)) 1 then 0 else 3) 0) 3)) (b.tmps[25]?.getD undef) W := d9
      dsimp only at d9
      clear hdep
      go_simp
      exact hK.out _ _ (Below.refl _ _) rfl
  · intro vs W hB hP
    have v3 := hP 3 (by decide)
    replace v3 : (fun (v : Value) (W : World) => v = .int .i64 (if Mt.inR s 1 1000 = true then (0 : Int) else 3)) (vs 3) W := v3
    dsimp only at v3
    have v10 := hP 10 (by decide)
    replace v10 : (fun (v : Value) (W : World) => v = .int .i64 (Mt.fst (Mt.at4 q (if Mt.inR s 1 1000 = true then (0 : Int) else 3) (if Mt.all (fun k => Mt.inR r (0) (200)) 1 then 0 else 3) 0) 3)) (vs 10) W := v10
    dsimp only at v10
    clear hP
    simp only [putD, Act.put, List.setIfInBounds_toArray, List.set_cons_succ, List.set_cons_zero, Nat.reduceAdd]
    rw [v10, HE.out]
    clear v3 v10 HE KM
    have HW : Hid (Below W1.heap.size W1 W) := hB
    obtain ⟨X2, hX2⟩ : ∃ X, X = W := ⟨_, rfl⟩
    have HB3 : Hid (Blk W w.heap.size #[.int .i64 0, .slice none 0 0, .slice none 0 0] 55 ∧ Below w.heap.size w W ∧ Blk W w1.heap.size #[.int .i64 q, .int .i64 m] 36) := ⟨HB1.out.2.1.old hB, HB1.out.2.2.trans (hB.mono HB1.out.2.2.size), BM.out.old hB⟩
    have hws : w.heap.size ≤ W.heap.size := HB3.out.2.1.size
    clear hX2 X2
    clear hB
    have rf := HB3.out.1.frozen
    have r0 := HB3.out.1.cell (j := 0) (v := .int .i64 0) rfl
    have r1 := HB3.out.1.cell (j := 1) (v := .slice none 0 0) rfl
    have r2 := HB3.out.1.cell (j := 2) (v := .slice none 0 0) rfl
    have bad : ∀ z : Int, z ≠ 0 → c = z → Hid (OwD w.heap.size (((W.setCell ⟨w.heap.size, 0, none⟩ (.int .i64 z)).setCell ⟨w.heap.size, 1, none⟩ (.slice none 0 0)).setCell ⟨w.heap.size, 2, none⟩ (.slice none 0 0)).heap.size (((W.setCell ⟨w.heap.size, 0, none⟩ (.int .i64 z)).setCell ⟨w.heap.size, 1, none⟩ (.slice none 0 0)).setCell ⟨w.heap.size, 2, none⟩ (.slice none 0 0)) c (.slice none 0 0) (.slice none 0 0) d ps (mers L n d ps) ∧ Below w.heap.size w (((W.setCell ⟨w.heap.size, 0, none⟩ (.int .i64 z)).setCell ⟨w.heap.size, 1, none⟩ (.slice none 0 0)).setCell ⟨w.heap.size, 2, none⟩ (.slice none 0 0)) ∧ Blk (((W.setCell ⟨w.heap.size, 0, none⟩ (.int .i64 z)).setCell ⟨w.heap.size, 1, none⟩ (.slice none 0 0)).setCell ⟨w.heap.size, 2, none⟩ (.slice none 0 0)) w.heap.size #[.int .i64 z, .slice none 0 0, .slice none 0 0] 55) := fun z hz e =>
      ⟨Or.inl ⟨by rw [e]; exact hz, rfl, rfl⟩, ((HB3.out.2.1.setCell (Nat.le_refl _) _).setCell (Nat.le_refl _) _).setCell (Nat.le_refl _) _, ((HB3.out.1.set 0 _ rfl).set 1 _ rfl).set 2 _ rfl⟩
    by_cases hcz : c = 0
    case neg =>
      have HB2 := bad c hcz rfl
      have hcb : (c != 0) = true := by simpa using hcz
      clear bad hcz
      go_wp2_with fail
      have s0 := HB2.out.2.2.cell (j := 0) (v := .int .i64 c) rfl
      have s1 := HB2.out.2.2.cell (j := 1) (v := .slice none 0 0) rfl
      have s2 := HB2.out.2.2.cell (j := 2) (v := .slice none 0 0) rfl
      refine bodyPost_ret (v := .agg #[.int .i64 c, .slice none 0 0, .slice none 0 0]) ?_ rfl ⟨_, _, rfl, HB2.out.1, HB2.out.2.1⟩
      simp [results, Try.results38, go_sem, s0, s1, s2]
    case pos =>
    subst hcz
    have HD : Hid (Mt.tcode L n d x = 0 ∧ q = 0 ∧ 1 ≤ s ∧ s ≤ 1000 ∧ 0 ≤ r ∧ r ≤ 200) := by
      have h1 := HC.out.1
      unfold Mt.dcode at h1
      rw [← HQ.out.1] at h1
      by_cases e0 : q = 0
      · rw [if_pos e0] at h1
        by_cases e1 : (Mt.inR s 1 1000 && Mt.inR r 0 200) = true
        · have e2 : Mt.inR s 1 1000 = true ∧ Mt.inR r 0 200 = true := by simpa using e1
          have e3 := Mt.inR_iff.1 e2.1
          have e4 := Mt.inR_iff.1 e2.2
          exact ⟨by rw [← HQ.out.1]; exact e0, e0, e3.1, e3.2, e4.1, e4.2⟩
        · rw [if_neg e1] at h1; exact absurd h1 (by decide)
      · rw [if_neg e0] at h1; exact absurd h1.symm e0
    have hAG : Hid (Mt.AGood L n d) := by
      have e := HD.out.1
      unfold Mt.tcode at e
      split at e
      · rename_i e3; exact Mt.agood e3
      · contradiction
    have hd1 : 0 < d := hAG.out.d1
    have hd10 : d ≤ 10 := hAG.out.d10
    have hdn : d ≤ 1048576 := HN.out.2
    obtain ⟨-, -, hs0, hs1, hr0, hr1⟩ := HD.out
    clear bad r0 r1 r2 rf
    go_upto_region 5 with fail
    have KA : ∀ U, Below W.heap.size W U → Hid (RdRow U (.slice qo d qc) d x ∧ U.cell? ⟨w1.heap.size, 1, none⟩ = some (.int .i64 m)) := fun U hb => ⟨(H U (HB3.out.2.1.trans (hb.mono hws))).out.2, (HB3.out.2.2.old hb).cell rfl⟩
    obtain ⟨V0, rfl⟩ : ∃ V, V = W := ⟨_, rfl⟩
    obtain ⟨Z, hZ⟩ : ∃ Z, Z = V0.heap.size := ⟨_, rfl⟩
    have HZ : Hid (Z = V0.heap.size) := hZ
    clear hZ
    refine wp_region_sd_last (by kernel_rfl) rfl rfl (lastOk_of (by kernel_rfl)) [30, 31, 32, 33, 34, 35, 36, 11] (fun i v W ts te => match i with
      | 0 => v = .slice qo d qc
      | 1 => ∃ g c, v = .slice (some ⟨g, 0, none⟩) d c ∧ ts 1 ≤ g ∧ g < te 1 ∧ Z ≤ ts 1 ∧ Seg W g 2 0 d (fun i => .int .i64 (x i))
      | 2 => v = .slice (some ⟨ts 2, 0, none⟩) 1 1 ∧ ∃ g c, W.ownsRow Z 24 1 v 1 [.slice (some ⟨g, 0, none⟩) d c] ∧ ts 1 ≤ g ∧ g < te 1 ∧ Z ≤ ts 1 ∧ Seg W g 2 0 d (fun i => .int .i64 (x i))
      | 3 => v = .pointer (some ⟨w1.heap.size, 1, none⟩)
      | 4 => v = .int .i64 m
      | 5 => v = .slice (some ⟨ts 5, 0, none⟩) 1 1 ∧ Ol W Z v [m] ∧ ts 5 < te 5
      | 6 => v = .agg #[.int .i64 0, .slice (some ⟨ts 2, 0, none⟩) 1 1, .slice (some ⟨ts 5, 0, none⟩) 1 1]
      | 7 => v = .pointer (some ⟨ts 7, 0, none⟩) ∧ Blk W (ts 7) #[.int .i64 0, .slice none 0 0, .slice none 0 0] 55 ∧ Z ≤ ts 7
      | _ => True) (reg_ok (n := 53) (by decide +kernel)) ?_ ?_ ?_
    · intro i v W W2 ts te us ue hag h hb
      rcases (show i = 0 ∨ i = 1 ∨ i = 2 ∨ i = 3 ∨ i = 4 ∨ i = 5 ∨ i = 6 ∨ i = 7 ∨ 8 ≤ i by omega) with rfl | rfl | rfl | rfl | rfl | rfl | rfl | rfl | hbig
      · exact h
      · exact (by obtain ⟨g, c, e, h1, h2, h3, h4⟩ := h; obtain ⟨q1, q2⟩ := hag 1 (Or.inl rfl); exact ⟨g, c, e, by rw [q1]; exact h1, by rw [q2]; exact h2, by rw [q1]; exact h3, h4.of_block (hb.block _ h4.lt)⟩)
      · exact (by obtain ⟨e, g, c, h0, h1, h2, h3, h4⟩ := h; obtain ⟨q1, q2⟩ := hag 1 (Or.inr ⟨_, rfl, ⟨1, .data⟩, by simp, by decide, rfl⟩); exact ⟨by rw [(hag 2 (Or.inl rfl)).1]; exact e, g, c, ownsV_later h0 hb, by rw [q1]; exact h1, by rw [q2]; exact h2, by rw [q1]; exact h3, h4.of_block (hb.block _ h4.lt)⟩)
      · exact h
      · exact h
      · exact (by obtain ⟨e, h1, h2⟩ := h; obtain ⟨q1, q2⟩ := hag 5 (Or.inl rfl); exact ⟨by rw [q1]; exact e, h1.later hb, by rw [q1, q2]; exact h2⟩)
      · exact (by rw [(hag 2 (Or.inr ⟨_, rfl, ⟨2, .data⟩, by simp, by decide, rfl⟩)).1, (hag 5 (Or.inr ⟨_, rfl, ⟨5, .data⟩, by simp, by decide, rfl⟩)).1]; exact h)
      · exact (by obtain ⟨e, h1, h2⟩ := h; obtain ⟨q1, q2⟩ := hag 7 (Or.inl rfl); rw [q1]; exact ⟨e, h1.old hb, h2⟩)
      · match i, hbig with | k + 8, _ => exact trivial
    · intro i o ho b W ts te hB hbase hdep K hK
      replace hK : Hid _ := hK
      have hlt : i < 8 := by have := (List.getElem?_eq_some_iff.1 ho).1; simpa using this
      have bse1 : b.tmps[1]?.getD undef = .slice qo d qc := (hbase 1 (by decide)).trans rfl
      have bse9 : b.tmps[9]?.getD undef = .pointer (some ⟨w1.heap.size, 0, none⟩) := (hbase 9 (by decide)).trans rfl
      clear hbase
      rcases (show i = 0 ∨ i = 1 ∨ i = 2 ∨ i = 3 ∨ i = 4 ∨ i = 5 ∨ i = 6 ∨ i = 7 by omega) with rfl | rfl | rfl | rfl | rfl | rfl | rfl | rfl
      · simp at ho
        subst ho
        clear hdep
        go_simp
        exact hK.out _ _ (Below.refl _ _) (fun us ue hag hs he => rfl)
      · simp at ho
        subst ho
        have d0 := hdep ⟨0, .data⟩ (by simp) (by decide)
        replace d0 : (fun (v : Value) (W : World) (ts te : Nat → Nat) => v = .slice qo d qc) (b.tmps[30]?.getD undef) W ts te := d0
        dsimp only at d0
        clear hdep
        go_simp
        go_at_call 75
        refine (iClone_any (KA W hB).out.1 hd1 hdn).mono ?_
        rintro e W2 ⟨g, c, rfl, a1, a2, a3, hb⟩
        exact hK.out _ _ hb (fun us ue hag hs he => ⟨g, c, rfl, by rw [hs]; exact a1, by rw [he]; exact a2, by rw [hs]; exact Nat.le_trans (HZ.out ▸ Nat.le_refl _) hB.size, a3⟩)
      · simp at ho
        subst ho
        have d1 := hdep ⟨1, .data⟩ (by simp) (by decide)
        replace d1 : (fun (v : Value) (W : World) (ts te : Nat → Nat) => ∃ g c, v = .slice (some ⟨g, 0, none⟩) d c ∧ ts 1 ≤ g ∧ g < te 1 ∧ Z ≤ ts 1 ∧ Seg W g 2 0 d (fun i => .int .i64 (x i))) (b.tmps[31]?.getD undef) W ts te := d1
        dsimp only at d1
        clear hdep
        obtain ⟨g, c, e, h1, h2, h3, h4⟩ := d1
        go_simp
        refine hK.out _ _ ((Below.refl _ _).alloc (Nat.le_refl _) _) (fun us ue hag hs he => ⟨by rw [hs], g, c, ?_, ?_, ?_, ?_, h4.alloc _⟩)
        · exact owns_low (owns_one W 24 _) (Nat.le_trans (HZ.out ▸ Nat.le_refl _) hB.size)
        · rw [(hag 1 (by decide)).1]; exact h1
        · rw [(hag 1 (by decide)).2]; exact h2
        · rw [(hag 1 (by decide)).1]; exact h3
      · simp at ho
        subst ho
        clear hdep
        go_simp
        exact hK.out _ _ (Below.refl _ _) (fun us ue hag hs he => rfl)
      · simp at ho
        subst ho
        have d3 := hdep ⟨3, .data⟩ (by simp) (by decide)
        replace d3 : (fun (v : Value) (W : World) (ts te : Nat → Nat) => v = .pointer (some ⟨w1.heap.size, 1, none⟩)) (b.tmps[33]?.getD undef) W ts te := d3
        dsimp only at d3
        clear hdep
        have hc : W.cell? ⟨w1.heap.size, 1, none⟩ = some (.int .i64 m) := (KA W hB).out.2
        go_simp
        exact hK.out _ _ (Below.refl _ _) (fun us ue hag hs he => rfl)
      · simp at ho
        subst ho
        have d4 := hdep ⟨4, .data⟩ (by simp) (by decide)
        replace d4 : (fun (v : Value) (W : World) (ts te : Nat → Nat) => v = .int .i64 m) (b.tmps[34]?.getD undef) W ts te := d4
        dsimp only at d4
        clear hdep
        go_simp
        refine hK.out _ _ ((Below.refl _ _).alloc (Nat.le_refl _) _) (fun us ue hag hs he => ⟨by rw [hs], (Ol.one W m).low (Nat.le_trans (HZ.out ▸ Nat.le_refl _) hB.size), by rw [hs, he]; simp⟩)
      · simp at ho
        subst ho
        have d2 := hdep ⟨2, .data⟩ (by simp) (by decide)
        replace d2 : (fun (v : Value) (W : World) (ts te : Nat → Nat) => v = .slice (some ⟨ts 2, 0, none⟩) 1 1 ∧ ∃ g c, W.ownsRow Z 24 1 v 1 [.slice (some ⟨g, 0, none⟩) d c] ∧ ts 1 ≤ g ∧ g < te 1 ∧ Z ≤ ts 1 ∧ Seg W g 2 0 d (fun i => .int .i64 (x i))) (b.tmps[32]?.getD undef) W ts te := d2
        dsimp only at d2
        have d5 := hdep ⟨5, .data⟩ (by simp) (by decide)
        replace d5 : (fun (v : Value) (W : World) (ts te : Nat → Nat) => v = .slice (some ⟨ts 5, 0, none⟩) 1 1 ∧ Ol W Z v [m] ∧ ts 5 < te 5) (b.tmps[35]?.getD undef) W ts te := d5
        dsimp only at d5
        clear hdep
        obtain ⟨e2, -⟩ := d2
        obtain ⟨e5, -⟩ := d5
        go_simp
        refine hK.out _ _ (Below.refl _ _) (fun us ue hag hs he => ?_)
        show Value.agg _ = Value.agg #[.int .i64 0, .slice (some ⟨us 2, 0, none⟩) 1 1, .slice (some ⟨us 5, 0, none⟩) 1 1]
        rw [(hag 2 (by decide)).1, (hag 5 (by decide)).1]
      · simp at ho
        subst ho
        clear hdep
        go_simp
        refine hK.out _ _ ((Below.refl _ _).alloc (Nat.le_refl _) _) (fun us ue hag hs he => ?_)
        rw [hs]
        exact ⟨rfl, Blk.new rfl, Nat.le_trans (HZ.out ▸ Nat.le_refl _) hB.size⟩
    · intro vs ts te W hB hP hD
      have v0 := hP 0 (by decide)
      replace v0 : (fun (v : Value) (W : World) (ts te : Nat → Nat) => v = .slice qo d qc) (vs 0) W ts te := v0
      dsimp only at v0
      have v1 := hP 1 (by decide)
      replace v1 : (fun (v : Value) (W : World) (ts te : Nat → Nat) => ∃ g c, v = .slice (some ⟨g, 0, none⟩) d c ∧ ts 1 ≤ g ∧ g < te 1 ∧ Z ≤ ts 1 ∧ Seg W g 2 0 d (fun i => .int .i64 (x i))) (vs 1) W ts te := v1
      dsimp only at v1
      have v2 := hP 2 (by decide)
      replace v2 : (fun (v : Value) (W : World) (ts te : Nat → Nat) => v = .slice (some ⟨ts 2, 0, none⟩) 1 1 ∧ ∃ g c, W.ownsRow Z 24 1 v 1 [.slice (some ⟨g, 0, none⟩) d c] ∧ ts 1 ≤ g ∧ g < te 1 ∧ Z ≤ ts 1 ∧ Seg W g 2 0 d (fun i => .int .i64 (x i))) (vs 2) W ts te := v2
      dsimp only at v2
      have v3 := hP 3 (by decide)
      replace v3 : (fun (v : Value) (W : World) (ts te : Nat → Nat) => v = .pointer (some ⟨w1.heap.size, 1, none⟩)) (vs 3) W ts te := v3
      dsimp only at v3
      have v4 := hP 4 (by decide)
      replace v4 : (fun (v : Value) (W : World) (ts te : Nat → Nat) => v = .int .i64 m) (vs 4) W ts te := v4
      dsimp only at v4
      have v5 := hP 5 (by decide)
      replace v5 : (fun (v : Value) (W : World) (ts te : Nat → Nat) => v = .slice (some ⟨ts 5, 0, none⟩) 1 1 ∧ Ol W Z v [m] ∧ ts 5 < te 5) (vs 5) W ts te := v5
      dsimp only at v5
      have v6 := hP 6 (by decide)
      replace v6 : (fun (v : Value) (W : World) (ts te : Nat → Nat) => v = .agg #[.int .i64 0, .slice (some ⟨ts 2, 0, none⟩) 1 1, .slice (some ⟨ts 5, 0, none⟩) 1 1]) (vs 6) W ts te := v6
      dsimp only at v6
      have v7 := hP 7 (by decide)
      replace v7 : (fun (v : Value) (W : World) (ts te : Nat → Nat) => v = .pointer (some ⟨ts 7, 0, none⟩) ∧ Blk W (ts 7) #[.int .i64 0, .slice none 0 0, .slice none 0 0] 55 ∧ Z ≤ ts 7) (vs 7) W ts te := v7
      dsimp only at v7
      clear hP
      simp only [putD, Act.put, List.setIfInBounds_toArray, List.set_cons_succ, List.set_cons_zero, Nat.reduceAdd]
      have hZ0 := HZ.out
      obtain ⟨e2, g, gc, h20, h21, h22, h23, h24⟩ := v2
      obtain ⟨e5, h50, h51⟩ := v5
      obtain ⟨e7, h70, h71⟩ := v7
      have hne : ts 5 ≠ g := by
        rcases hD 1 5 (by decide) (by decide) (by decide) with q | q <;> omega
      rw [e2] at h20
      rw [e5] at h50
      simp only [e7, v6]
      have P0 : Pth W w.heap.size (.slice (some ⟨ts 2, 0, none⟩) 1 1) (.slice (some ⟨ts 5, 0, none⟩) 1 1) (fun _ => g) (fun _ => gc) d [x] [m] := Pth.one (owns_low h20 (by omega)) (h50.low (by omega)) h24 (by omega) (fun e => hne (by simpa [Value.ownBlock] using e))
      have hrb : w.heap.size ≠ ts 7 := by have := HB3.out.1.lt; omega
      have b1 := h70.set 0 (.int .i64 0) rfl
      have b2 := b1.set 1 (.slice (some ⟨ts 2, 0, none⟩) 1 1) rfl
      have b3 := b2.set 2 (.slice (some ⟨ts 5, 0, none⟩) 1 1) rfl
      have HG3 : Hid (Go3 (((W.setCell ⟨ts 7, 0, none⟩ (.int .i64 0)).setCell ⟨ts 7, 1, none⟩ (.slice (some ⟨ts 2, 0, none⟩) 1 1)).setCell ⟨ts 7, 2, none⟩ (.slice (some ⟨ts 5, 0, none⟩) 1 1)) w.heap.size w.heap.size (ts 7) (.slice (some ⟨ts 2, 0, none⟩) 1 1) (.slice (some ⟨ts 5, 0, none⟩) 1 1) (fun _ => g) (fun _ => gc) d [x] (mers L n d [x]) ∧ Below w.heap.size w (((W.setCell ⟨ts 7, 0, none⟩ (.int .i64 0)).setCell ⟨ts 7, 1, none⟩ (.slice (some ⟨ts 2, 0, none⟩) 1 1)).setCell ⟨ts 7, 2, none⟩ (.slice (some ⟨ts 5, 0, none⟩) 1 1))) := by
        have e : mers L n d [x] = [m] := by rw [HQ.out.2]; rfl
        rw [e]
        have hb7 : w.heap.size ≤ ts 7 := by omega
        exact ⟨⟨((P0.box h70 (by decide)).box b1 (by decide)).box b2 (by decide), b3, (((HB3.out.1.old hB).setOther hrb _).setOther hrb _).setOther hrb _, hrb, hb7, Nat.le_refl _⟩, (((HB3.out.2.1.trans (hB.mono hws)).setCell hb7 _).setCell hb7 _).setCell hb7 _⟩
      have p0 := h70.cell (j := 0) (v := .int .i64 0) rfl
      have p1 := h70.cell (j := 1) (v := .slice none 0 0) rfl
      have p2 := h70.cell (j := 2) (v := .slice none 0 0) rfl
      have pf := h70.frozen
      clear P0 b1 b2 b3 h20 h50 h24 hD e2 e5 v0 v1 v3 v4 hB h70 h71 h21 h22 h23 h51 hne hZ0 KA v6 e7 hrb
      go_wp2_with fail
      obtain ⟨bx, hbx⟩ : ∃ b, b = ts 7 := ⟨_, rfl⟩
      obtain ⟨W3, hW3⟩ : ∃ V, V = (((W.setCell ⟨ts 7, 0, none⟩ (.int .i64 0)).setCell ⟨ts 7, 1, none⟩ (.slice (some ⟨ts 2, 0, none⟩) 1 1)).setCell ⟨ts 7, 2, none⟩ (.slice (some ⟨ts 5, 0, none⟩) 1 1)) := ⟨_, rfl⟩
      rw [← hW3] at HG3 ⊢
      rw [← hbx] at HG3 ⊢
      have HPR : Hid (ps = Mt.run L n d r.toNat [x] s ∧ Mt.Fine L n d [x]) := ⟨HC.out.2, ⟨by simp, fun p hp => by simp at hp; rw [hp]; exact HD.out.1⟩⟩
      clear hW3 hbx p0 p1 p2 pf
      go_loopw [2, 12] (fun u2 u12 wr => ∃ (k : Nat) (s' : Int) (pz : List Mt.Pnt) (vp vm : Value) (bs cs : Nat → Nat), (k : Int) ≤ r ∧ 0 ≤ s' ∧ s' ≤ 1000 ∧ u12 = .int .i64 k ∧ u2 = .int .i64 s' ∧ Hid (Go3 wr w.heap.size w.heap.size bx vp vm bs cs d pz (mers L n d pz) ∧ Below w.heap.size w wr ∧ Mt.Fine L n d pz ∧ pz.length ≤ 1 + k * d ∧ ps = Mt.run L n d (r.toNat - k) pz s')) (fun _ u12 _ => r.toNat - (intOf u12).toNat)
      case atStart => exact ⟨0, s, [x], _, _, _, _, hr0, by omega, hs1, rfl, rfl, HG3.out.1, HG3.out.2, HPR.out.2, by simp, HPR.out.1⟩
      case round =>
        obtain ⟨k, s', pz, vp, vm, bs, cs, hkr, hs0', hs1', rfl, rfl, HS⟩ := hrel
        clear HG3 HPR
        by_cases hgo : (k : Int) < r ∧ 0 < s'
        case neg =>
          have hps : Hid (ps = pz) := by
            show ps = pz
            rw [HS.out.2.2.2.2]
            by_cases q : 0 < s'
            · have : r.toNat - k = 0 := by omega
              rw [this]; rfl
            · cases r.toNat - k with
              | zero => rfl
              | succ t => unfold Mt.run; rw [if_neg q]
          obtain ⟨xp, yp, rfl⟩ := owns_shape HS.out.1.pth.top
          obtain ⟨xm, ym, rfl⟩ := owns_shape HS.out.1.pth.mer
          have a0 := HS.out.1.box.cell (j := 0) (v := .int .i64 0) rfl
          have a1 := HS.out.1.box.cell (j := 1) (v := .slice xp pz.length yp) rfl
          have a2 := HS.out.1.box.cell (j := 2) (v := (.slice xm (mers L n d pz).length ym)) rfl
          have r0 := HS.out.1.res.cell (j := 0) (v := .int .i64 0) rfl
          have r1 := HS.out.1.res.cell (j := 1) (v := .slice none 0 0) rfl
          have r2 := HS.out.1.res.cell (j := 2) (v := .slice none 0 0) rfl
          have rf := HS.out.1.res.frozen
          have hrb := HS.out.1.ne
          have HB2 : Hid (OwD w.heap.size (((wr.setCell ⟨w.heap.size, 0, none⟩ (.int .i64 0)).setCell ⟨w.heap.size, 1, none⟩ (.slice xp pz.length yp)).setCell ⟨w.heap.size, 2, none⟩ (.slice xm (mers L n d pz).length ym)).heap.size (((wr.setCell ⟨w.heap.size, 0, none⟩ (.int .i64 0)).setCell ⟨w.heap.size, 1, none⟩ (.slice xp pz.length yp)).setCell ⟨w.heap.size, 2, none⟩ (.slice xm (mers L n d pz).length ym)) 0 (.slice xp pz.length yp) (.slice xm (mers L n d pz).length ym) d ps (mers L n d ps) ∧ Below w.heap.size w (((wr.setCell ⟨w.heap.size, 0, none⟩ (.int .i64 0)).setCell ⟨w.heap.size, 1, none⟩ (.slice xp pz.length yp)).setCell ⟨w.heap.size, 2, none⟩ (.slice xm (mers L n d pz).length ym)) ∧ Blk (((wr.setCell ⟨w.heap.size, 0, none⟩ (.int .i64 0)).setCell ⟨w.heap.size, 1, none⟩ (.slice xp pz.length yp)).setCell ⟨w.heap.size, 2, none⟩ (.slice xm (mers L n d pz).length ym)) w.heap.size #[.int .i64 0, (.slice xp pz.length yp), (.slice xm (mers L n d pz).length ym)] 55) := by
            have b1 := HS.out.1.res.set 0 (.int .i64 0) rfl
            have b2 := b1.set 1 (.slice xp pz.length yp) rfl
            have b3 := b2.set 2 (.slice xm (mers L n d pz).length ym) rfl
            rw [hps.out]
            have hF := HS.out.2.2.1.ne
            exact ⟨OwD.of (((HS.out.1.pth.box HS.out.1.res (by decide)).box b1 (by decide)).box b2 (by decide)) hF (by rw [mers_len]; exact hF), ((HS.out.2.1.setCell (Nat.le_refl _) _).setCell (Nat.le_refl _) _).setCell (Nat.le_refl _) _, b3⟩
          have hor : ¬ ((k : Int) < r) ∨ ((k : Int) < r ∧ ¬ (0 < s')) := by omega
          clear hgo
          rcases hor with q | ⟨q, q2⟩
          · go_wp2_with fail
            have s0 := HB2.out.2.2.cell (j := 0) (v := .int .i64 0) rfl
            have s1 := HB2.out.2.2.cell (j := 1) (v := .slice xp pz.length yp) rfl
            have s2 := HB2.out.2.2.cell (j := 2) (v := .slice xm (mers L n d pz).length ym) rfl
            refine bodyPost_ret (v := .agg #[.int .i64 0, .slice xp pz.length yp, .slice xm (mers L n d pz).length ym]) ?_ rfl ⟨_, _, rfl, HB2.out.1, HB2.out.2.1⟩
            simp [results, Try.results38, go_sem, s0, s1, s2]
          · go_wp2_with fail
            have s0 := HB2.out.2.2.cell (j := 0) (v := .int .i64 0) rfl
            have s1 := HB2.out.2.2.cell (j := 1) (v := .slice xp pz.length yp) rfl
            have s2 := HB2.out.2.2.cell (j := 2) (v := .slice xm (mers L n d pz).length ym) rfl
            refine bodyPost_ret (v := .agg #[.int .i64 0, .slice xp pz.length yp, .slice xm (mers L n d pz).length ym]) ?_ rfl ⟨_, _, rfl, HB2.out.1, HB2.out.2.1⟩
            simp [results, Try.results38, go_sem, s0, s1, s2]
        case pos =>
        obtain ⟨hk1, hs2⟩ := hgo
        have HLz : Hid (pz.length ≤ 2900) := by
          have h1 := HS.out.2.2.2.1
          have h2 : k * d ≤ 200 * 10 := Nat.mul_le_mul (by omega) hd10
          show pz.length ≤ 2900
          omega
        obtain ⟨t, ht⟩ : ∃ t, t = decide (pz.length < (Mt.rnd L n d pz s' d).length) := ⟨_, rfl⟩
        have HDn := iDown_any ht HS.out.1 HS.out.2.1 ((H w (Below.refl _ _)).out.1) hAG.out HS.out.2.2.1 hs2 hs1' HLz.out
        have HE : Hid (ps = Mt.run L n d (r.toNat - (k + 1)) (Mt.rnd L n d pz s' d) (if (Mt.rnd L n d pz s' d).length = pz.length then s' / 2 else s') ∧ (Mt.rnd L n d pz s' d).length ≤ 1 + (k + 1) * d ∧ pz.length ≤ (Mt.rnd L n d pz s' d).length ∧ Mt.Fine L n d (Mt.rnd L n d pz s' d)) := by
          have h1 := HS.out.2.2.2.2
          rw [show r.toNat - k = (r.toNat - (k + 1)) + 1 by omega, run_pos hs2] at h1
          have h2 := Mt.rnd_step HS.out.2.2.1 s' d
          have h3 := HS.out.2.2.2.1
          refine ⟨h1, ?_, h2.2.1, h2.1⟩
          rw [Nat.succ_mul]
          omega
        have hkk : (k : Int) + 1 ≤ r := by omega
        have htd : Int.tdiv s' 2 = s' / 2 := by rw [Int.tdiv_eq_ediv_of_nonneg (by omega)]
        have HT : Hid (t = decide (pz.length < (Mt.rnd L n d pz s' d).length)) := ht
        obtain ⟨pj, hpj⟩ : ∃ p, p = Mt.rnd L n d pz s' d := ⟨_, rfl⟩
        rw [← hpj] at HDn HE HT
        clear ht hpj
        by_cases hm : t = true
        · subst hm
          have hl : Hid (¬ pj.length = pz.length) := by
            have h2 : true = decide (pz.length < pj.length) := HT.out
            have h3 : pz.length < pj.length := by simpa using h2.symm
            show ¬ _
            omega
          go_wp2_with (first | (go_at_call 76; refine HDn.mono ?_; rintro e x1 ⟨rfl, ⟨vp1, vm1, bs1, cs1, hg1⟩, hx1⟩))
          go_roundw
          case rel => exact ⟨k + 1, s', pj, vp1, vm1, bs1, cs1, by omega, by omega, by omega, by simp, rfl, hg1, HS.out.2.1.trans hx1, HE.out.2.2.2, HE.out.2.1, by have h := HE.out.1; rw [if_neg hl.out] at h; exact h⟩
          case measure => simp [intOf]; omega
        · have hm' : t = false := by simpa using hm
          subst hm'
          have hl : Hid (pj.length = pz.length) := by
            have h2 : false = decide (pz.length < pj.length) := HT.out
            have h3 : ¬ pz.length < pj.length := by simpa using h2.symm
            have h4 := HE.out.2.2.1
            show _ = _
            omega
          clear hm
          go_wp2_with (first | (go_at_call 76; refine HDn.mono ?_; rintro e x1 ⟨rfl, ⟨vp1, vm1, bs1, cs1, hg1⟩, hx1⟩))
          go_roundw
          case rel => exact ⟨k + 1, s' / 2, pj, vp1, vm1, bs1, cs1, by omega, by omega, by omega, by simp, by first | rfl | rw [htd] | (simp [htd]; done), hg1, HS.out.2.1.trans hx1, HE.out.2.2.2, HE.out.2.1, by have h := HE.out.1; rw [if_pos hl.out] at h; exact h⟩
          case measure => simp [intOf]; omega
end Go.Proofs.Ytelejihgechmgaa
