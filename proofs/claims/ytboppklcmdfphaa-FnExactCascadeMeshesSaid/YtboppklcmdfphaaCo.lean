/- impl.columnsOf. -/
import Derived.Test.YtboppklcmdfphaaUm
namespace Go.Proofs.Ytboppklcmdfphaa
open Go.RowKit
set_option linter.unusedVariables false
attribute [local go_sem] Oper.semAt_some
/-- The columns, as far as they are laid. -/
def ColTo (F : Rm.Mx) (n m k : Nat) (A : Rm.Mx) : Prop := ∀ i j, i < n → j < m → i * m + j < k → A j i = F i j
theorem col_step {F A : Rm.Mx} {n m k : Nat} (h : ColTo F n m k A) {i j : Nat} (hi : i < n) (hj : j < m) (hk : i * m + j = k) : ColTo F n m (k + 1) (fun r c => if r = j ∧ c = i then F i j else A r c) := by
  intro a c ha hc hl
  show (if c = j ∧ a = i then F i j else A c a) = F a c
  by_cases e : c = j ∧ a = i
  · obtain ⟨rfl, rfl⟩ := e
    rw [if_pos ⟨rfl, rfl⟩]
  · rw [if_neg e]
    refine h a c ha hc ?_
    have : a * m + c ≠ k := by
      intro he
      rw [← hk] at he
      have h1 := plc_at (i := a) hc
      have h2 := plc_at (i := i) hj
      rw [he] at h1
      exact e ⟨by rw [← h1.2, h2.2], by rw [← h1.1, h2.1]⟩
    omega
set_option maxRecDepth 100000 in
set_option maxHeartbeats 4000000 in
theorem cols_any (b off n m cap : Nat) (rv : Nat → Nat × Nat × Nat) (F : Rm.Mx) (w : World) (hS : Shp (fun i j x => x = F i j) b off n m rv w) (hn0 : 0 < n) (hn : n ≤ 1000) (hm0 : 0 < m) (hm : m ≤ 1000) :
    Calls Try.prog 74 #[.slice (some ⟨b, off, none⟩) n cap] w fun e w' => ∃ lie : Lie, e = .returned (.slice (some ⟨lie.b, 0, none⟩) m lie.cap) ∧ Mat w.heap.size w'.heap.size w' lie m (fun _ => n) (fun i j => F j i) ∧ Below w.heap.size w w' ∧ ∀ i, lie.os i = 0 := by
  have HS : Hid (Shp (fun i j x => x = F i j) b off n m rv w) := hS
  have r0 := (hS 0 hn0).1
  rw [Nat.add_zero] at r0
  clear hS
  refine (callsIn_wide (n := 6)).1 ?_
  refine callsIn_of_wp_marks Try.func74 rfl trivial ?_ rfl
  simp only [Try.ntmps74, List.size_toArray, List.length_cons, List.length_nil, Nat.reduceAdd, Nat.reduceSub, Array.replicate_succ, Array.replicate_zero, List.push_toArray, List.append_toArray, List.nil_append, List.cons_append]
  refine wpIn_wide.2 ?_
  go_upto_region 2 with (go_at_call 77; refine (zeroRows_any _ _ _ (by omega) (by omega)).mono ?_; rintro e wz ⟨rfl, hMz, hbz⟩)
  obtain ⟨Y, hY⟩ : ∃ Y, Y = wz.alloc (.cells #[.slice (some ⟨w.heap.size, 0, none⟩) m m] 22) := ⟨_, rfl⟩
  rw [← hY]
  have BY : Below w.heap.size w Y := by rw [hY]; exact hbz.alloc hbz.size _
  have MY : Mat w.heap.size wz.heap.size Y (newLie w.heap.size m (fun _ => n)) m (fun _ => n) (fun _ _ => 0) := by rw [hY]; exact hMz.alloc _ (Nat.le_refl _)
  have KY : Blk Y wz.heap.size #[.slice (some ⟨w.heap.size, 0, none⟩) m m] 22 := by rw [hY]; exact Blk.new rfl
  have zY : wz.heap.size + 1 ≤ Y.heap.size := by rw [hY]; simp
  have zz : w.heap.size ≤ wz.heap.size := hbz.size
  clear hY hMz hbz
  have HH : Hid (Below w.heap.size w Y ∧ Mat w.heap.size wz.heap.size Y (newLie w.heap.size m (fun _ => n)) m (fun _ => n) (fun _ _ => 0) ∧ Blk Y wz.heap.size #[.slice (some ⟨w.heap.size, 0, none⟩) m m] 22) := ⟨BY, MY, KY⟩
  clear BY MY KY
  obtain ⟨lie, hlie⟩ : ∃ l : Lie, l = newLie w.heap.size m (fun _ => n) := ⟨_, rfl⟩
  obtain ⟨kx, hkx⟩ : ∃ k, k = wz.heap.size := ⟨_, rfl⟩
  go_wp2_with (go_at_call 108; refine (nums_any _ _ _ _).mono ?_; rintro e w1 ⟨rfl, hw1⟩)
  obtain ⟨W0, hW0⟩ : ∃ W0, W0 = Y.alloc (.cells #[.slice (some ⟨b, off, none⟩) n cap] 22) := ⟨_, rfl⟩
  rw [← hW0]
  have YW : Below Y.heap.size Y W0 := by rw [hW0]; exact (Below.refl _ _).alloc (Nat.le_refl _) _
  have zW : Y.heap.size + 1 ≤ W0.heap.size := by rw [hW0]; simp
  have cB : W0.cell? ⟨Y.heap.size, 0, none⟩ = some (.slice (some ⟨b, off, none⟩) n cap) := by rw [hW0]; exact (Blk.new rfl : Blk _ _ _ _).cell (j := 0) rfl
  clear hW0
  obtain ⟨bY, MY, KY⟩ := HH.out
  rw [← hlie] at MY
  rw [← hkx] at KY MY zY zz ⊢
  have HL : Hid (w.heap.size = lie.b ∧ m = lie.cap) := by show w.heap.size = lie.b ∧ m = lie.cap; rw [hlie]; exact ⟨rfl, rfl⟩
  have HL2 : Hid (∀ i, lie.os i = 0) := by show ∀ i, lie.os i = 0; rw [hlie]; exact fun _ => rfl
  clear hlie hkx HH
  have SW : Shp (fun i j x => x = F i j) b off n m rv W0 := (HS.out.later bY).later YW
  have bW : Below w.heap.size w W0 := bY.trans (YW.mono bY.size)
  have P0 : (∃ A, Mat w.heap.size kx W0 lie m (fun _ => n) A ∧ ColTo F n m 0 A) ∧ Blk W0 kx #[.slice (some ⟨w.heap.size, 0, none⟩) m m] 22 ∧ Below w.heap.size w W0 :=
    ⟨⟨_, MY.keep fun k _ h2 => YW.block k (by omega), fun i j _ _ h => absurd h (by omega)⟩, KY.old YW, bW⟩
  clear bY MY KY YW bW
  refine (wpIn_wide (n := 6)).1 ?_
  refine wpIn_rangeFunc_ownH rfl (by omega) (gf := 118) (lb := #[.pointer (some ⟨Y.heap.size, 0, none⟩)]) rfl trivial (enters_of Try.func118 (by kernel_rfl) rfl)
    (nums_stops Fence.wide 5 trivial rfl (by omega) Y.heap.size b off n m cap (fun i j x => x = F i j) rv hn hm W0 cB SW) (fun h k => shpK_t h k) shpK_b (Below.refl _ _) (fun _ => rfl)
    (fun pre W => W0.heap.size ≤ W.heap.size ∧ ((∃ A, Mat w.heap.size kx W lie m (fun _ => n) A ∧ (pre.map plc = plcs m pre.length → ColTo F n m pre.length A)) ∧ Blk W kx #[.slice (some ⟨w.heap.size, 0, none⟩) m m] 22 ∧ Below w.heap.size w W))
    (fun _ _ _ => False)
    (own_low fun s W W' h hb => ⟨h.1.imp fun A hA => ⟨hA.1.keep fun k _ h2 => hb.block k (by omega), hA.2⟩, (hb.block _ (by omega)).trans h.2.1, h.2.2.trans (hb.mono (by omega))⟩)
    (fun _ _ _ _ _ hs _ _ => hs)
    ⟨Nat.le_refl _, P0.1.imp fun A hA => ⟨hA.1, fun _ => hA.2⟩, P0.2⟩
    (fun x a' W => ∃ Bx, W0.heap.size ≤ Bx ∧ Blk W Bx #[.int .i64 (x.1.1 : Int), .int .i64 (x.1.2.1 : Int)] 118 ∧ a' = { tmps := #[.slice (some ⟨b, off, none⟩) n cap, undef, .slice none 0 0, .pointer (some ⟨kx, 0, none⟩), .pointer (some ⟨Bx, 0, none⟩), .int .i64 x.1.2.2, .slice (some ⟨b, off, none⟩) n cap, .pointer (some ⟨b, off, none⟩), .slice (some ⟨(rv 0).1, (rv 0).2.1, none⟩) m (rv 0).2.2, .int .i64 (m : Int), .slice (some ⟨b, off, none⟩) n cap, .int .i64 (n : Int), .slice (some ⟨w.heap.size, 0, none⟩) m m, .slice (some ⟨b, off, none⟩) n cap, .func (.func 118) #[] #[.pointer (some ⟨Y.heap.size, 0, none⟩)], .agg #[.int .i64 (x.1.1 : Int), .int .i64 (x.1.2.1 : Int)], .int .i64 x.1.2.2, undef, undef, undef, undef, undef, undef, undef, undef, undef, undef], defers := [] })
    (fun x a' _ X' Y' row hs hg hr => by obtain ⟨Bx, h1, h2, h3⟩ := hs; exact ⟨Bx, h1, blk_own () X' Y' row h2 hg hr, h3⟩)
    ?assign ?body ?done ?stop
  case assign =>
    rintro l pre x W K ⟨hz, ⟨A, hA, hA2⟩, hb1, hb3⟩ hK
    dsimp only [encAt]
    gi_wp2
    exact hK _ _ ((KeepsOthers.alloc _ _).from _) (fun h => h.later ((Below.refl _ _).alloc (Nat.le_refl _) _)) ⟨by simp; omega, ⟨A, hA.alloc _ (by omega), hA2⟩, hb1.alloc _, hb3.alloc hb3.size _⟩ ⟨W.heap.size, hz, Blk.new rfl, rfl⟩
  case body =>
    rintro l pre ⟨⟨i, j, p⟩, hi1, hj1, hp1⟩ a' W hl ⟨r, hr⟩ ⟨hz, ⟨A, hA, hA2⟩, hb1, hb3⟩ ⟨Bx, hBx, bX, rfl⟩ hlt
    dsimp only at hi1 hj1 hp1 bX ⊢
    subst hp1
    have HA : Hid (Mat w.heap.size kx W lie m (fun _ => n) A ∧ (pre.map plc = plcs m pre.length → ColTo F n m pre.length A)) := ⟨hA, hA2⟩
    have HB : Hid (Blk W kx #[.slice (some ⟨w.heap.size, 0, none⟩) m m] 22 ∧ Below w.heap.size w W) := ⟨hb1, hb3⟩
    have v1 : W.cell? ⟨w.heap.size, j, none⟩ = some (.slice (some ⟨lie.bs j, lie.os j, none⟩) n (lie.cs j)) := by rw [HL.out.1]; exact hA.cellRow hj1
    have q0 : ∀ x : Kept W.heap.size W, x.w.cell? ⟨kx, 0, none⟩ = some (.slice (some ⟨w.heap.size, 0, none⟩) m m) := fun x => x.cell hb1.lt (hb1.cell (j := 0) rfl)
    have q2 : ∀ x : Kept W.heap.size W, x.w.cell? ⟨Bx, 0, none⟩ = some (.int .i64 (i : Int)) := fun x => x.cell bX.lt (bX.cell (j := 0) rfl)
    have q3 : ∀ x : Kept W.heap.size W, x.w.cell? ⟨Bx, 1, none⟩ = some (.int .i64 (j : Int)) := fun x => x.cell bX.lt (bX.cell (j := 1) rfl)
    have q6 : ∀ x : Kept W.heap.size W, x.w.cell? ⟨w.heap.size, j, none⟩ = some (.slice (some ⟨lie.bs j, lie.os j, none⟩) n (lie.cs j)) := fun x => x.cell (World.block_lt_of_cell? _ _ v1) v1
    clear hA hA2 hb1 hb3 bX hr v1
    refine wpIn_block ?_
    refine round_last W.heap.size (by kernel_rfl) rfl rfl (by kernel_rfl) (lastOk_of (by kernel_rfl)) ?_ (by kernel_rfl) (by rintro ⟨_, _, h⟩; exact h)
    intro hne
    dsimp only [List.dropLast]
    repeat (go_big_quiet_step (fail))
    refine wpQuiet_nil ?_
    rintro W5 ⟨xk, hxk⟩
    have hR1 := xk.h
    rw [← hxk] at hR1
    clear hxk xk hne q0 q2 q3 q6
    have M5 : Hid (Mat w.heap.size kx W5 lie m (fun _ => n) A) := HA.out.1.keep fun k _ h2 => hR1.block k (by omega)
    have g1 : W5.cell? ⟨lie.bs j, lie.os j + i, none⟩ = some (.int .i64 (A j i)) := M5.out.cellAt hj1 hi1
    have g2 : W5.frozen? ⟨lie.bs j, lie.os j + i, none⟩ = false := (M5.out.row j hj1).frozen _
    have hbl := M5.out.rlo j hj1
    have hbh := M5.out.rhi j hj1
    have FIN : Hid (KeepsFrom W0.heap.size W (W5.setCell ⟨lie.bs j, lie.os j + i, none⟩ (.int .i64 (F i j))) ∧ (Shp (fun i j x => x = F i j) b off n m rv W → Shp (fun i j x => x = F i j) b off n m rv (W5.setCell ⟨lie.bs j, lie.os j + i, none⟩ (.int .i64 (F i j)))) ∧
        W0.heap.size ≤ (W5.setCell ⟨lie.bs j, lie.os j + i, none⟩ (.int .i64 (F i j))).heap.size ∧ ((∃ A', Mat w.heap.size kx (W5.setCell ⟨lie.bs j, lie.os j + i, none⟩ (.int .i64 (F i j))) lie m (fun _ => n) A' ∧ ((pre ++ [(⟨(i, j, F i j), hi1, hj1, rfl⟩ : At (fun i j x => x = F i j) n m)]).map plc = plcs m (pre ++ [(⟨(i, j, F i j), hi1, hj1, rfl⟩ : At (fun i j x => x = F i j) n m)]).length → ColTo F n m (pre ++ [(⟨(i, j, F i j), hi1, hj1, rfl⟩ : At (fun i j x => x = F i j) n m)]).length A')) ∧
          Blk (W5.setCell ⟨lie.bs j, lie.os j + i, none⟩ (.int .i64 (F i j))) kx #[.slice (some ⟨w.heap.size, 0, none⟩) m m] 22 ∧ Below w.heap.size w (W5.setCell ⟨lie.bs j, lie.os j + i, none⟩ (.int .i64 (F i j))))) := by
      refine ⟨(keepsFrom_below hR1).trans (keepsFrom_set _ _ _), fun _ => HS.out.later ((HB.out.2.trans (hR1.mono HB.out.2.size)).setCell (p := ⟨lie.bs j, lie.os j + i, none⟩) (by show w.heap.size ≤ lie.bs j; omega) _), ?_, ⟨_, M5.out.set hj1 hi1 _, ?_⟩, (HB.out.1.old hR1).setOther (p := ⟨lie.bs j, lie.os j + i, none⟩) (by show kx ≠ lie.bs j; omega) _, (HB.out.2.trans (hR1.mono HB.out.2.size)).setCell (p := ⟨lie.bs j, lie.os j + i, none⟩) (by show w.heap.size ≤ lie.bs j; omega) _⟩
      · have := hR1.size; simp; omega
      · intro hpl
        rw [List.map_append, List.length_append] at hpl
        obtain ⟨h1, h2⟩ := plcs_snoc hpl
        have e := Nat.div_add_mod pre.length m
        simp only [plc, Prod.mk.injEq] at h2
        rw [← h2.1, ← h2.2] at e
        have := col_step (HA.out.2 h1) hi1 hj1 (by rw [Nat.mul_comm]; exact e)
        rw [List.length_append]
        exact this
    clear hR1 M5 hbl hbh
    go_wp2
    exact FIN.out
  case done =>
    rintro D ys W hD hys ⟨hz, ⟨A, hA, hA2⟩, hb1, hb3⟩ hK
    have HA : Hid (Mat w.heap.size kx W lie m (fun _ => n) A ∧ (ys.map plc = plcs m ys.length → ColTo F n m ys.length A)) := ⟨hA, hA2⟩
    have HB : Hid (Below w.heap.size w W ∧ W.heap[D]? = some (.deferred (some []))) := ⟨hb3, hK⟩
    have x0 := hb1.cell (j := 0) rfl
    clear hA hA2 hb1 hb3 hK
    dsimp only
    go_wp2
    refine ⟨by simp, .inl ⟨_, _, rfl, run_takeDeferred HB.out.2, ?_⟩⟩
    have hlen : ys.length = n * m := by rw [← List.length_map (f := plc), hys, plcs_length]
    have bP : Below W0.heap.size W (W.putObj D (.deferred none)) := (Below.refl _ W).grown (grownBy_putObj' W D _) hz (fun k e => by cases e; exact hD)
    refine ⟨_, results_tmp rfl _ _ _, lie, by rw [← HL.out.1, ← HL.out.2]; rfl, ?_, HB.out.1.trans (bP.mono (by omega)), HL2.out⟩
    have hd := HA.out.2 (by rw [hlen]; exact hys)
    rw [hlen] at hd
    refine ((HA.out.1.congr fun i j h1 h2 => hd j i h2 h1 ?_).keep fun k _ h2 => bP.block k (by omega)).wide (by omega) ?_
    · have : (j + 1) * m ≤ n * m := Nat.mul_le_mul_right m h2
      rw [Nat.succ_mul] at this
      omega
    · simp
      omega
  case stop =>
    rintro D c pre W _ _ h _
    exact h.elim
end Go.Proofs.Ytboppklcmdfphaa
