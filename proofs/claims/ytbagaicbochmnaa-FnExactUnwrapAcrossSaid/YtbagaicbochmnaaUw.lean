/- impl.unwrapRows. -/
import Derived.Test.YtbagaicbochmnaaUm
namespace Go.Proofs.Ytbagaicbochmnaa
open Go.RowKit
set_option linter.unusedVariables false
attribute [local go_sem] Oper.semAt_some
set_option maxRecDepth 100000 in
set_option maxHeartbeats 4000000 in
theorem unwR_any (b off n m cap : Nat) (rv : Nat → Nat × Nat × Nat) (F : Rm.Mx) (w : World) (hS : Shp (fun i j x => x = F i j) b off n m rv w) (hn0 : 0 < n) (hn : n ≤ 1000) (hm0 : 0 < m) (hm : m ≤ 1000) :
    Calls Try.prog 78 #[.slice (some ⟨b, off, none⟩) n cap] w fun e w' => ∃ lie : Lie, e = .returned (.slice (some ⟨lie.b, 0, none⟩) n lie.cap) ∧ Mat w.heap.size w'.heap.size w' lie n (fun _ => m) (uwm F) ∧ Below w.heap.size w w' := by
  have HS : Hid (Shp (fun i j x => x = F i j) b off n m rv w) := hS
  clear hS
  refine (callsIn_wide (n := 6)).1 ?_
  refine callsIn_of_wp_marks Try.func78 rfl trivial ?_ rfl
  simp only [Try.ntmps78, List.size_toArray, List.length_cons, List.length_nil, Nat.reduceAdd, Nat.reduceSub, Array.replicate_succ, Array.replicate_zero, List.push_toArray, List.append_toArray, List.nil_append, List.cons_append]
  refine wpIn_wide.2 ?_
  obtain ⟨X, hX⟩ : ∃ X, X = w.alloc (.cells #[.slice (some ⟨b, off, none⟩) n cap] 22) := ⟨_, rfl⟩
  have BR : Hid (Blk X w.heap.size #[.slice (some ⟨b, off, none⟩) n cap] 22) := by show Blk X _ _ _; rw [hX]; exact Blk.new rfl
  have HX : Hid (Below w.heap.size w X) := by show Below _ _ X; rw [hX]; exact (Below.refl _ _).alloc (Nat.le_refl _) _
  have zX : X.heap.size = w.heap.size + 1 := by rw [hX]; simp
  have S0 : Hid (Shp (fun i j x => x = F i j) b off n m rv X) := HS.out.later HX.out
  go_upto_region 1 with fail
  rw [← hX]
  clear hX
  have r0 := (S0.out 0 hn0).1
  rw [Nat.add_zero] at r0
  have kr : ∀ W, Below X.heap.size X W → W.cell? ⟨b, off, none⟩ = some (.slice (some ⟨(rv 0).1, (rv 0).2.1, none⟩) m (rv 0).2.2) := fun W h => kold h r0
  have kb : ∀ W, Below X.heap.size X W → W.cell? ⟨w.heap.size, 0, none⟩ = some (.slice (some ⟨b, off, none⟩) n cap) := fun W h => kold h (BR.out.cell (j := 0) rfl)
  have hR0 : Below X.heap.size X X := Below.refl _ _
  have ZX : Hid (X.heap.size = w.heap.size + 1) := zX
  clear zX r0
  go_cut [3] from 7 to 13 (fun pz wx => ∃ (kx lo hi : Nat) (lie : Lie), pz = .pointer (some ⟨kx, 0, none⟩) ∧ Hid (X.heap.size ≤ kx ∧ X.heap.size ≤ lo ∧ hi ≤ wx.heap.size ∧ (kx < lo ∨ hi ≤ kx) ∧ Below X.heap.size X wx ∧ Blk wx kx #[.slice (some ⟨lie.b, 0, none⟩) n lie.cap] 22 ∧ Mat lo hi wx lie n (fun _ => m) (fun _ _ => 0)))
  case first =>
    go_region_held3 (fun W => Below X.heap.size X W) (go_grown) (first | (go_at_call 65; refine (zeroRows_any _ _ _ (by omega) (by omega)).mono ?_; rintro e wz ⟨rfl, hMz, hb1⟩; have hs1 := hb1.size; (try simp at hs1); have hR1 : Below X.heap.size X wz := (by refine box_step ?_ hb1 (by go_size); go_grown); (first | (have hZ := box_step hZ hb1 (Nat.le_refl _)) | (have hZ := hb1)); obtain ⟨ho1, hf1, hz1⟩ := olds hZ))
    all_goals
      go_wp2_with fail
      go_meet
      case rel =>
        first
          | exact ⟨wz.heap.size, X.heap.size, wz.heap.size, newLie X.heap.size n (fun _ => m), rfl, hs1, Nat.le_refl _, by simp, Or.inr (Nat.le_refl _), by assumption, Blk.new rfl, hMz.alloc _ (Nat.le_refl _)⟩
          | exact ⟨X.heap.size, X.heap.size + 1, wz.heap.size, newLie (X.heap.size + 1) n (fun _ => m), rfl, Nat.le_refl _, by omega, by simp, Or.inl (by omega), by assumption, Blk.set (Blk.old (Blk.drew (Blk.new rfl)) hZ) 0 _ rfl, Mat.keep (by simpa using hMz) (fun k h1 h2 => Below.heap_setCell _ _ _ _ (by show k ≠ X.heap.size; omega))⟩
  case rest =>
    obtain ⟨kx, lo, hi, lie, rfl, HC⟩ := hcut
    clear kr kb hR0
    obtain ⟨hk1, hlo, hhi, hap, hbX, hBk, hM⟩ := HC.out
    have hkw : kx < wc.heap.size := hBk.lt
    have SC : Hid (Shp (fun i j x => x = F i j) b off n m rv wc) := S0.out.later hbX
    have r0 := (SC.out 0 hn0).1
    obtain ⟨x0, f0, e0⟩ := (SC.out 0 hn0).2 0 hm0
    subst e0
    rw [Nat.add_zero] at r0 f0
    have t0 : wc.cell? ⟨lie.b, 0, none⟩ = some (.slice (some ⟨lie.bs 0, lie.os 0, none⟩) m (lie.cs 0)) := hM.cellRow hn0
    have q0 : ∀ x : Kept wc.heap.size wc, x.w.cell? ⟨kx, 0, none⟩ = some (.slice (some ⟨lie.b, 0, none⟩) n lie.cap) := fun x => x.cell hkw (hBk.cell (j := 0) rfl)
    have q1 : ∀ x : Kept wc.heap.size wc, x.w.cell? ⟨w.heap.size, 0, none⟩ = some (.slice (some ⟨b, off, none⟩) n cap) := fun x => x.cell (BR.out.old hbX).lt ((BR.out.old hbX).cell (j := 0) rfl)
    have q2 : ∀ x : Kept wc.heap.size wc, x.w.cell? ⟨b, off, none⟩ = some (.slice (some ⟨(rv 0).1, (rv 0).2.1, none⟩) m (rv 0).2.2) := fun x => x.cell (World.block_lt_of_cell? _ _ r0) r0
    have q3 : ∀ x : Kept wc.heap.size wc, x.w.cell? ⟨(rv 0).1, (rv 0).2.1, none⟩ = some (.int .i64 (F 0 0)) := fun x => x.cell (World.block_lt_of_cell? _ _ f0) f0
    have q4 : ∀ x : Kept wc.heap.size wc, x.w.cell? ⟨lie.b, 0, none⟩ = some (.slice (some ⟨lie.bs 0, lie.os 0, none⟩) m (lie.cs 0)) := fun x => x.cell (World.block_lt_of_cell? _ _ t0) t0
    clear hbX hBk hM t0 r0 f0 hk1 hlo hhi hap hkw
    go_upto_region 2 with fail
    refine wp_region_last' wc.heap.size (by kernel_rfl) rfl rfl (by kernel_rfl) (lastOk_of (by kernel_rfl)) ?_
    intro hne
    dsimp only [List.dropLast]
    repeat (go_big_quiet_step (first | (go_at_call 38; exact Calls.kept_of (Nat.le_refl _) ((iWrap_any _ _).mono fun e w' ⟨h1, h2⟩ => ⟨h1, by subst h2; exact Below.refl _ _⟩))))
    refine wpQuiet_nil ?_
    rintro u3 ⟨xk, hxk⟩
    have hR1 := xk.h
    rw [← hxk] at hR1
    clear hxk xk hne q0 q1 q2 q3 q4
    obtain ⟨hk1, hlo, hhi, hap, hbX, hBk, hM⟩ := HC.out
    have M3 : Hid (Mat lo hi u3 lie n (fun _ => m) (fun _ _ => 0)) := hM.keep fun k _ h2 => hR1.block k (by omega)
    have g1 : u3.cell? ⟨lie.bs 0, lie.os 0, none⟩ = some (.int .i64 0) := by simpa using M3.out.cellAt hn0 hm0
    have g2 : u3.frozen? ⟨lie.bs 0, lie.os 0, none⟩ = false := (M3.out.row 0 hn0).frozen _
    obtain ⟨Y, hY⟩ : ∃ Y, Y = u3.setCell ⟨lie.bs 0, lie.os 0, none⟩ (.int .i64 (wph (F 0 0))) := ⟨_, rfl⟩
    have MY : Hid (Mat lo hi Y lie n (fun _ => m) (fun r c => if r = 0 ∧ c = 0 then wph (F 0 0) else 0)) := by
      show Mat lo hi Y _ _ _ _
      rw [hY]
      simpa using M3.out.set hn0 hm0 (wph (F 0 0))
    have XY : Hid (Below X.heap.size X Y) := by
      show Below _ _ Y
      rw [hY]
      exact (hbX.trans (hR1.mono hbX.size)).setCell (p := ⟨lie.bs 0, lie.os 0, none⟩) (Nat.le_trans hlo (M3.out.rlo 0 hn0)) _
    have KY : Hid (Blk Y kx #[.slice (some ⟨lie.b, 0, none⟩) n lie.cap] 22) := by
      show Blk Y _ _ _
      rw [hY]
      refine (hBk.old hR1).setOther (p := ⟨lie.bs 0, lie.os 0, none⟩) ?_ _
      have h1 := M3.out.rlo 0 hn0
      have h2 := M3.out.rhi 0 hn0
      show kx ≠ lie.bs 0
      omega
    have zY : hi ≤ Y.heap.size := by rw [hY]; simp; exact Nat.le_trans hhi hR1.size
    have HC2 : Hid (X.heap.size ≤ kx ∧ X.heap.size ≤ lo ∧ hi ≤ Y.heap.size ∧ (kx < lo ∨ hi ≤ kx)) := ⟨hk1, hlo, zY, hap⟩
    have RY : Hid (Blk Y w.heap.size #[.slice (some ⟨b, off, none⟩) n cap] 22) := BR.out.old XY.out
    clear hk1 hlo hhi hap hbX hBk hM hR1 zY HC
    go_upto_region 3 with fail
    rw [← hY]
    clear hY g1 g2 M3
    have c1 := RY.out.cell (j := 0) rfl
    go_wp2_with (go_at_call 80; refine (nums_any _ _ _ _).mono ?_; rintro e w1 ⟨rfl, hw1⟩)
    obtain ⟨W0, hW0⟩ : ∃ W0, W0 = Y.alloc (.cells #[.slice (some ⟨b, off, none⟩) n cap] 22) := ⟨_, rfl⟩
    rw [← hW0]
    have YW : Below Y.heap.size Y W0 := by rw [hW0]; exact (Below.refl _ _).alloc (Nat.le_refl _) _
    have zW : Y.heap.size + 1 ≤ W0.heap.size := by rw [hW0]; simp
    have cB : W0.cell? ⟨Y.heap.size, 0, none⟩ = some (.slice (some ⟨b, off, none⟩) n cap) := by rw [hW0]; exact (Blk.new rfl : Blk _ _ _ _).cell (j := 0) rfl
    clear hW0
    have SW : Shp (fun i j x => x = F i j) b off n m rv W0 := (S0.out.later XY.out).later YW
    have bW : Below w.heap.size w W0 := (HX.out.trans (XY.out.mono HX.out.size)).trans (YW.mono (Nat.le_trans HX.out.size XY.out.size))
    obtain ⟨hk1, hlo, hhi, hap⟩ := HC2.out
    have zX : w.heap.size + 1 ≤ X.heap.size := by have := ZX.out; omega
    have hkY := KY.out.lt
    have P0 : (∃ A, Mat lo hi W0 lie n (fun _ => m) A ∧ DoneTo F n m 0 A) ∧ Blk W0 kx #[.slice (some ⟨lie.b, 0, none⟩) n lie.cap] 22 ∧ Blk W0 w.heap.size #[.slice (some ⟨b, off, none⟩) n cap] 22 ∧ Below w.heap.size w W0 :=
      ⟨⟨_, MY.out.keep fun k _ h2 => YW.block k (by omega), ⟨fun i j _ _ h => absurd h (by omega), fun _ => by simp⟩⟩, KY.out.old YW, RY.out.old YW, bW⟩
    refine (wpIn_wide (n := 6)).1 ?_
    refine wpIn_rangeFunc_ownH rfl (by omega) (gf := 102) (lb := #[.pointer (some ⟨Y.heap.size, 0, none⟩)]) rfl trivial (enters_of Try.func102 (by kernel_rfl) rfl)
      (nums_stops Fence.wide 5 trivial rfl (by omega) Y.heap.size b off n m cap (fun i j x => x = F i j) rv hn hm W0 cB SW) (fun h k => shpK_t h k) shpK_b (Below.refl _ _) (fun _ => rfl)
      (fun pre W => W0.heap.size ≤ W.heap.size ∧ ((∃ A, Mat lo hi W lie n (fun _ => m) A ∧ (pre.map plc = plcs m pre.length → DoneTo F n m pre.length A)) ∧ Blk W kx #[.slice (some ⟨lie.b, 0, none⟩) n lie.cap] 22 ∧ Blk W w.heap.size #[.slice (some ⟨b, off, none⟩) n cap] 22 ∧ Below w.heap.size w W))
      (fun _ _ _ => False)
      (own_low fun s W W' h hb => ⟨h.1.imp fun A hA => ⟨hA.1.keep fun k _ h2 => hb.block k (by omega), hA.2⟩, (hb.block _ (by omega)).trans h.2.1, (hb.block _ (by omega)).trans h.2.2.1, h.2.2.2.trans (hb.mono (by omega))⟩)
      (fun _ _ _ _ _ hs _ _ => hs)
      ⟨Nat.le_refl _, P0.1.imp fun A hA => ⟨hA.1, fun _ => hA.2⟩, P0.2⟩
      (fun x a' W => ∃ Bx, W0.heap.size ≤ Bx ∧ Blk W Bx #[.int .i64 (x.1.1 : Int), .int .i64 (x.1.2.1 : Int)] 77 ∧ a' = { tmps := #[.slice (some ⟨b, off, none⟩) n cap, .pointer (some ⟨w.heap.size, 0, none⟩), .slice none 0 0, .pointer (some ⟨kx, 0, none⟩), .pointer (some ⟨Bx, 0, none⟩), .int .i64 x.1.2.2, undef, u7, u8, u9, u10, u11, u12, u13, .slice (some ⟨lie.b, 0, none⟩) n lie.cap, .pointer (some ⟨lie.b, 0, none⟩), .slice (some ⟨lie.bs 0, lie.os 0, none⟩) m (lie.cs 0), .slice (some ⟨b, off, none⟩) n cap, .pointer (some ⟨b, off, none⟩), .slice (some ⟨(rv 0).1, (rv 0).2.1, none⟩) m (rv 0).2.2, .pointer (some ⟨(rv 0).1, (rv 0).2.1, none⟩), .int .i64 (F 0 0), .int .i64 (wph (F 0 0)), .pointer (some ⟨lie.bs 0, lie.os 0, none⟩), .slice (some ⟨b, off, none⟩) n cap, .func (.func 102) #[] #[.pointer (some ⟨Y.heap.size, 0, none⟩)], .agg #[.int .i64 (x.1.1 : Int), .int .i64 (x.1.2.1 : Int)], .int .i64 x.1.2.2, undef, undef, undef, undef, undef, undef, undef, undef, undef, undef, undef, undef, undef, undef, undef, undef, undef, undef, undef, undef], defers := [] })
      (fun x a' _ X' Y' row hs hg hr => by obtain ⟨Bx, h1, h2, h3⟩ := hs; exact ⟨Bx, h1, blk_own () X' Y' row h2 hg hr, h3⟩)
      ?assign ?body ?done ?stop
    case assign =>
      rintro l pre x W K ⟨hz, ⟨A, hA, hA2⟩, hb1, hb2, hb3⟩ hK
      dsimp only [encAt]
      gi_wp2
      exact hK _ _ ((KeepsOthers.alloc _ _).from _) (fun h => h.later ((Below.refl _ _).alloc (Nat.le_refl _) _)) ⟨by simp; omega, ⟨A, hA.alloc _ (by omega), hA2⟩, hb1.alloc _, hb2.alloc _, hb3.alloc hb3.size _⟩ ⟨W.heap.size, hz, Blk.new rfl, rfl⟩
    case body =>
      rintro l pre ⟨⟨i, j, p⟩, hi1, hj1, hp1⟩ a' W hl ⟨r, hr⟩ ⟨hz, ⟨A, hA, hA2⟩, hb1, hb2, hb3⟩ ⟨Bx, hBx, bX, rfl⟩ hlt
      dsimp only at hi1 hj1 hp1 bX ⊢
      subst hp1
      have HA : Hid (Mat lo hi W lie n (fun _ => m) A ∧ (pre.map plc = plcs m pre.length → DoneTo F n m pre.length A)) := ⟨hA, hA2⟩
      have HB : Hid (Blk W kx #[.slice (some ⟨lie.b, 0, none⟩) n lie.cap] 22 ∧ Blk W w.heap.size #[.slice (some ⟨b, off, none⟩) n cap] 22 ∧ Below w.heap.size w W ∧ Blk W Bx #[.int .i64 (i : Int), .int .i64 (j : Int)] 77) := ⟨hb1, hb2, hb3, bX⟩
      have x0 := bX.cell (j := 0) rfl
      have x1 := bX.cell (j := 1) rfl
      clear hA hA2 hb1 hb2 hb3 bX hr
      refine wpIn_block ?_
      refine wpIn_seq ?_
      refine region_round_lit (by kernel_rfl) (by rintro ⟨_, _, h⟩; exact h) ?_
      go_wp2_with (go_at_call 100; refine (ahead_any _ _ _ (by omega) (by omega)).mono ?_; rintro e w2 ⟨rfl, hw2⟩)
      obtain ⟨V, hV⟩ : ∃ V, V = w2.alloc (.cells #[.int .i64 ((ahd i j).1 : Int), .int .i64 ((ahd i j).2 : Int)] 77) := ⟨_, rfl⟩
      rw [← hV]
      have WV : Below W.heap.size W V := by rw [hV]; exact hw2.alloc hw2.size _
      have BV : Blk V w2.heap.size #[.int .i64 ((ahd i j).1 : Int), .int .i64 ((ahd i j).2 : Int)] 77 := by rw [hV]; exact Blk.new rfl
      have zV : W.heap.size ≤ V.heap.size := WV.size
      clear hV hw2
      have hPQ : (ahd i j).1 < n ∧ (ahd i j).2 < m := by unfold ahd; split <;> constructor <;> simp <;> omega
      have NX : Hid (wrap64 (A (ahd i j).1 (ahd i j).2 + wst (F (ahd i j).1 (ahd i j).2) (F i j)) = nxt F A i j) := rfl
      generalize (ahd i j).1 = ai at BV hPQ NX ⊢
      generalize (ahd i j).2 = aj at BV hPQ NX ⊢
      obtain ⟨hai, haj⟩ := hPQ
      have MV : Hid (Mat lo hi V lie n (fun _ => m) A) := HA.out.1.keep fun k _ h2 => WV.block k (by omega)
      have SV : Hid (Shp (fun i j x => x = F i j) b off n m rv V) := HS.out.later (HB.out.2.2.1.trans (WV.mono HB.out.2.2.1.size))
      have v1 : V.cell? ⟨lie.b, i, none⟩ = some (.slice (some ⟨lie.bs i, lie.os i, none⟩) m (lie.cs i)) := MV.out.cellRow hi1
      have v2 : V.cell? ⟨lie.b, 0 + ai, none⟩ = some (.slice (some ⟨lie.bs ai, lie.os ai, none⟩) m (lie.cs ai)) := by rw [Nat.zero_add]; exact MV.out.cellRow hai
      have v3 : V.cell? ⟨lie.bs ai, lie.os ai + aj, none⟩ = some (.int .i64 (A ai aj)) := MV.out.cellAt hai haj
      have v4 := (SV.out ai hai).1
      obtain ⟨xf, v5, ef⟩ := (SV.out ai hai).2 aj haj
      subst ef
      have q0 : ∀ x : Kept V.heap.size V, x.w.cell? ⟨kx, 0, none⟩ = some (.slice (some ⟨lie.b, 0, none⟩) n lie.cap) := fun x => x.cell (HB.out.1.old WV).lt ((HB.out.1.old WV).cell (j := 0) rfl)
      have q1 : ∀ x : Kept V.heap.size V, x.w.cell? ⟨w.heap.size, 0, none⟩ = some (.slice (some ⟨b, off, none⟩) n cap) := fun x => x.cell (HB.out.2.1.old WV).lt ((HB.out.2.1.old WV).cell (j := 0) rfl)
      have q2 : ∀ x : Kept V.heap.size V, x.w.cell? ⟨Bx, 0, none⟩ = some (.int .i64 (i : Int)) := fun x => x.cell (HB.out.2.2.2.old WV).lt ((HB.out.2.2.2.old WV).cell (j := 0) rfl)
      have q3 : ∀ x : Kept V.heap.size V, x.w.cell? ⟨Bx, 1, none⟩ = some (.int .i64 (j : Int)) := fun x => x.cell (HB.out.2.2.2.old WV).lt ((HB.out.2.2.2.old WV).cell (j := 1) rfl)
      have q4 : ∀ x : Kept V.heap.size V, x.w.cell? ⟨w2.heap.size, 0, none⟩ = some (.int .i64 (ai : Int)) := fun x => x.cell BV.lt (BV.cell (j := 0) rfl)
      have q5 : ∀ x : Kept V.heap.size V, x.w.cell? ⟨w2.heap.size, 1, none⟩ = some (.int .i64 (aj : Int)) := fun x => x.cell BV.lt (BV.cell (j := 1) rfl)
      have q6 : ∀ x : Kept V.heap.size V, x.w.cell? ⟨lie.b, i, none⟩ = some (.slice (some ⟨lie.bs i, lie.os i, none⟩) m (lie.cs i)) := fun x => x.cell (World.block_lt_of_cell? _ _ v1) v1
      have iA : ∀ x : Kept V.heap.size V, Calls Try.prog 101 #[.agg #[.int .i64 (ai : Int), .int .i64 (aj : Int)], .slice (some ⟨lie.b, 0, none⟩) n lie.cap] x.w fun e w' => e = .returned (.int .i64 (A ai aj)) ∧ Below x.w.heap.size x.w w' :=
        fun x => in_any ai aj lie.b 0 n lie.cap _ _ m _ _ x.w hai haj hn hm (x.cell (World.block_lt_of_cell? _ _ v2) v2) (x.cell (World.block_lt_of_cell? _ _ v3) v3)
      have iF : ∀ x : Kept V.heap.size V, Calls Try.prog 101 #[.agg #[.int .i64 (ai : Int), .int .i64 (aj : Int)], .slice (some ⟨b, off, none⟩) n cap] x.w fun e w' => e = .returned (.int .i64 (F ai aj)) ∧ Below x.w.heap.size x.w w' :=
        fun x => in_any ai aj b off n cap _ _ m _ _ x.w hai haj hn hm (x.cell (World.block_lt_of_cell? _ _ v4) v4) (x.cell (World.block_lt_of_cell? _ _ v5) v5)
      clear v1 v2 v3 v4 v5 BV x0 x1
      refine round_last V.heap.size (by kernel_rfl) rfl rfl (by kernel_rfl) (lastOk_of (by kernel_rfl)) ?_ (by kernel_rfl) (by rintro ⟨_, _, h⟩; exact h)
      intro hne
      dsimp only [List.dropLast]
      repeat (go_big_quiet_step (first | (go_at_call 101; first | (with_reducible exact Calls.kept_of (Nat.le_refl _) (iA _)) | (with_reducible exact Calls.kept_of (Nat.le_refl _) (iF _))) | (go_at_call 76; exact Calls.kept_of (Nat.le_refl _) ((iStep_any _ _ _).mono fun e w' ⟨h1, h2⟩ => ⟨h1, by subst h2; exact Below.refl _ _⟩))))
      refine wpQuiet_nil ?_
      rintro u5 ⟨xk, hxk⟩
      have hR1 := xk.h
      rw [← hxk] at hR1
      clear hxk xk hne q0 q1 q2 q3 q4 q5 q6 iA iF
      rw [NX.out]
      have M5 : Hid (Mat lo hi u5 lie n (fun _ => m) A) := MV.out.keep fun k _ h2 => hR1.block k (by omega)
      have W5 : Below W.heap.size W u5 := WV.trans (hR1.mono zV)
      have g1 : u5.cell? ⟨lie.bs i, lie.os i + j, none⟩ = some (.int .i64 (A i j)) := M5.out.cellAt hi1 hj1
      have g2 : u5.frozen? ⟨lie.bs i, lie.os i + j, none⟩ = false := (M5.out.row i hi1).frozen _
      have hbl := M5.out.rlo i hi1
      have hbh := M5.out.rhi i hi1
      have FIN : Hid (KeepsFrom W0.heap.size W (u5.setCell ⟨lie.bs i, lie.os i + j, none⟩ (.int .i64 (nxt F A i j))) ∧ (Shp (fun i j x => x = F i j) b off n m rv W → Shp (fun i j x => x = F i j) b off n m rv (u5.setCell ⟨lie.bs i, lie.os i + j, none⟩ (.int .i64 (nxt F A i j)))) ∧
          W0.heap.size ≤ (u5.setCell ⟨lie.bs i, lie.os i + j, none⟩ (.int .i64 (nxt F A i j))).heap.size ∧ ((∃ A', Mat lo hi (u5.setCell ⟨lie.bs i, lie.os i + j, none⟩ (.int .i64 (nxt F A i j))) lie n (fun _ => m) A' ∧ ((pre ++ [(⟨(i, j, F i j), hi1, hj1, rfl⟩ : At (fun i j x => x = F i j) n m)]).map plc = plcs m (pre ++ [(⟨(i, j, F i j), hi1, hj1, rfl⟩ : At (fun i j x => x = F i j) n m)]).length → DoneTo F n m (pre ++ [(⟨(i, j, F i j), hi1, hj1, rfl⟩ : At (fun i j x => x = F i j) n m)]).length A')) ∧
            Blk (u5.setCell ⟨lie.bs i, lie.os i + j, none⟩ (.int .i64 (nxt F A i j))) kx #[.slice (some ⟨lie.b, 0, none⟩) n lie.cap] 22 ∧ Blk (u5.setCell ⟨lie.bs i, lie.os i + j, none⟩ (.int .i64 (nxt F A i j))) w.heap.size #[.slice (some ⟨b, off, none⟩) n cap] 22 ∧ Below w.heap.size w (u5.setCell ⟨lie.bs i, lie.os i + j, none⟩ (.int .i64 (nxt F A i j))))) := by
        refine ⟨(keepsFrom_below W5).trans (keepsFrom_set _ _ _), fun _ => HS.out.later ((HB.out.2.2.1.trans (W5.mono HB.out.2.2.1.size)).setCell (p := ⟨lie.bs i, lie.os i + j, none⟩) (by show w.heap.size ≤ lie.bs i; omega) _), ?_, ⟨_, M5.out.set hi1 hj1 _, ?_⟩, (HB.out.1.old W5).setOther (p := ⟨lie.bs i, lie.os i + j, none⟩) (by show kx ≠ lie.bs i; omega) _, (HB.out.2.1.old W5).setOther (p := ⟨lie.bs i, lie.os i + j, none⟩) (by show w.heap.size ≠ lie.bs i; omega) _, (HB.out.2.2.1.trans (W5.mono HB.out.2.2.1.size)).setCell (p := ⟨lie.bs i, lie.os i + j, none⟩) (by show w.heap.size ≤ lie.bs i; omega) _⟩
        · have := W5.size; simp; omega
        · intro hpl
          rw [List.map_append, List.length_append] at hpl
          obtain ⟨h1, h2⟩ := plcs_snoc hpl
          have e := Nat.div_add_mod pre.length m
          simp only [plc, Prod.mk.injEq] at h2
          rw [← h2.1, ← h2.2] at e
          have := done_step (HA.out.2 h1) hi1 hj1 (by rw [Nat.mul_comm]; exact e)
          rw [List.length_append]
          exact this
      clear hR1 M5 W5 hbl hbh MV SV WV zV
      go_wp2
      exact FIN.out
    case done =>
      rintro D ys W hD hys ⟨hz, ⟨A, hA, hA2⟩, hb1, hb2, hb3⟩ hK
      have HA : Hid (Mat lo hi W lie n (fun _ => m) A ∧ (ys.map plc = plcs m ys.length → DoneTo F n m ys.length A)) := ⟨hA, hA2⟩
      have HB : Hid (Below w.heap.size w W ∧ W.heap[D]? = some (.deferred (some []))) := ⟨hb3, hK⟩
      have x0 := hb1.cell (j := 0) rfl
      clear hA hA2 hb1 hb2 hb3 hK
      dsimp only
      go_wp2
      refine ⟨by simp, .inl ⟨_, _, rfl, run_takeDeferred HB.out.2, ?_⟩⟩
      have hlen : ys.length = n * m := by rw [← List.length_map (f := plc), hys, plcs_length]
      have bP : Below W0.heap.size W (W.putObj D (.deferred none)) := (Below.refl _ W).grown (grownBy_putObj' W D _) hz (fun k e => by cases e; exact hD)
      refine ⟨_, results_tmp rfl _ _ _, lie, rfl, ?_, HB.out.1.trans (bP.mono (by omega))⟩
      have hd := HA.out.2 (by rw [hlen]; exact hys)
      rw [hlen] at hd
      refine ((HA.out.1.congr fun i j h1 h2 => done_all hd h1 h2).keep fun k _ h2 => bP.block k (by omega)).wide (by omega) ?_
      simp
      omega
    case stop =>
      rintro D c pre W _ _ h _
      exact h.elim
end Go.Proofs.Ytbagaicbochmnaa
