/- impl.PhaseKnots. -/
import Derived.Test.YtbagaicbochmnaaKn
import Derived.Test.YtbagaicbochmnaaRz
import Derived.Test.YtbagaicbochmnaaMp
namespace Go.Proofs.Ytbagaicbochmnaa
open Go.RowKit
set_option linter.unusedVariables false
attribute [local go_sem] Oper.semAt_some
theorem Mat.evenK {lo hi : Nat} {w : World} {l : Lie} {n k : Nat} {L : Nat → Nat} {F : Rm.Mx} (h : Mat lo hi w l n L F) (e : ∀ i, i < n → L i = k) : Mat lo hi w l n (fun _ => k) F :=
  ⟨h.top.congr fun i hi => by simp [Lie.row, e i hi], fun i hi => by have := h.row i hi; rwa [e i hi] at this, h.blo, h.bhi, h.rlo, h.rhi, h.apart⟩
/-- The knots of a map. -/
def knm (F : Rm.Mx) (i j : Nat) : Int := kn (F i j) (F i (j + 1)) (F (i + 1) (j + 1)) (F (i + 1) j)
def knr (n m : Nat) : Nat := if m = 1 then 0 else n - 1
/-- As far as it is filled. -/
def FillTo (K : Rm.Mx) (n m k : Nat) (A : Rm.Mx) : Prop := ∀ i j, i < n → j < m → i * m + j < k → A i j = K i j
theorem fill_step {K A : Rm.Mx} {n m k : Nat} (h : FillTo K n m k A) {i j : Nat} (hi : i < n) (hj : j < m) (hk : i * m + j = k) : FillTo K n m (k + 1) (fun r c => if r = i ∧ c = j then K i j else A r c) := by
  intro a c ha hc hl
  show (if a = i ∧ c = j then K i j else A a c) = K a c
  by_cases e : a = i ∧ c = j
  · obtain ⟨rfl, rfl⟩ := e
    rw [if_pos ⟨rfl, rfl⟩]
  · rw [if_neg e]
    refine h a c ha hc ?_
    have : a * m + c ≠ k := by
      intro he
      rw [← hk] at he
      have h1 := plc_at (i := a) hc
      have h2 := plc_at (i := i) hj
      rw [he] at h1
      exact e ⟨by rw [← h1.1, h2.1], by rw [← h1.2, h2.2]⟩
    omega
theorem Mat.shpT {lo hi : Nat} {w : World} {lie : Lie} {n k : Nat} {F : Rm.Mx} (h : Mat lo hi w lie n (fun _ => k) F) : Shp (fun _ _ _ => True) lie.b 0 n k (fun i => (lie.bs i, lie.os i, lie.cs i)) w :=
  fun i hi => ⟨(h.shp i hi).1, fun j hj => let ⟨x, hx, _⟩ := (h.shp i hi).2 j hj; ⟨x, hx, trivial⟩⟩
theorem small_k {x : Int} (h0 : 0 ≤ x) (h1 : x ≤ 31) : IntKind.i64.wrap x = x := kwrap_id (by omega) (by omega)
theorem small_w {x : Int} (h0 : 0 ≤ x) (h1 : x ≤ 31) : wrap64 x = x := wrap_id (by omega) (by omega)
set_option maxRecDepth 100000 in
set_option maxHeartbeats 4000000 in
theorem iKn_any {lo0 hi0 : Nat} {w : World} {l : Lie} {n : Nat} {L : Nat → Nat} {F : Rm.Mx} (h : Mat lo0 hi0 w l n L F) (hn : n ≤ 1000000000000) (hL : ∀ i, i < n → L i ≤ 1000000000000) (hhi : hi0 ≤ w.heap.size) :
    Calls Try.prog 50 #[.slice (some ⟨l.b, 0, none⟩) n l.cap] w fun e w' => ∃ v, e = .returned (.agg #[.int .i64 (mapc n L), v]) ∧ OwnM w.heap.size w'.heap.size w' (mapc n L) v (knr n (L 0)) (L 0 - 1) (knm F) ∧ Below w.heap.size w w' := by
  obtain ⟨X, hX⟩ : ∃ X, X = (w.alloc (.cells #[.slice (some ⟨l.b, 0, none⟩) n l.cap] 22)).alloc (.cells #[.int .i64 0, .slice none 0 0] 47) := ⟨_, rfl⟩
  have HW : Hid (Mat lo0 hi0 w l n L F) := h
  have HM : Hid (Mat lo0 hi0 X l n L F) := by show Mat lo0 hi0 X _ _ _ _; rw [hX]; exact (h.alloc _ hhi).alloc _ (by simp; omega)
  have HB : Hid (Below w.heap.size w X) := by show Below _ _ X; rw [hX]; exact ((Below.refl _ _).alloc (Nat.le_refl _) _).alloc (by simp) _
  have BX : Hid (Blk X (w.heap.size + 1) #[.int .i64 0, .slice none 0 0] 47) := by show Blk X _ _ _; rw [hX]; exact Blk.new (by simp)
  have RX : Hid (Blk X w.heap.size #[.slice (some ⟨l.b, 0, none⟩) n l.cap] 22) := by show Blk X _ _ _; rw [hX]; exact (Blk.new rfl).alloc _
  have zX : w.heap.size + 1 < X.heap.size := BX.out.lt
  have HL : Hid (∀ i, i < n → L i ≤ 9223372036854775807) := fun i hi => by have := hL i hi; omega
  have hzX : hi0 ≤ X.heap.size := by omega
  clear h hL
  refine (callsIn_wide (n := 6)).1 ?_
  refine callsIn_of_wp_marks Try.func50 rfl trivial ?_ rfl
  simp only [Try.ntmps50, List.size_toArray, List.length_cons, List.length_nil, Nat.reduceAdd, Nat.reduceSub, Array.replicate_succ, Array.replicate_zero, List.push_toArray, List.append_toArray, List.nil_append, List.cons_append]
  refine wpIn_wide.2 ?_
  go_upto_region 1 with fail
  rw [← hX]
  clear hX
  have r0 := RX.out.cell (j := 0) rfl
  go_wp2_with fail
  refine (iMap_any _ _ _ _ L _ (by omega) HL.out HM.out.tops).mono ?_
  rintro e w1 ⟨rfl, rfl⟩
  have c0 := BX.out.cell (j := 0) rfl
  have c1 := BX.out.cell (j := 1) rfl
  have f0 := BX.out.frozen 0
  have f1 := BX.out.frozen 1
  by_cases hc : mapc n L = 0
  · obtain ⟨hn0, hn32, hl0, hl32, hE⟩ := mapc_right hc
    have M0 : Hid (Mat lo0 hi0 X l n (fun _ => L 0) F) := HM.out.evenK hE
    have M0w : Hid (Mat lo0 hi0 w l n (fun _ => L 0) F) := HW.out.evenK hE
    have HCC : Hid (mapc n L = 0) := hc
    rw [hc]
    clear hc hE
    obtain ⟨m, hm⟩ : ∃ m, m = L 0 := ⟨_, rfl⟩
    rw [← hm] at hl0 hl32 M0 M0w
    have HMM : Hid (m = L 0) := hm
    clear HM HL hm
    have t0 : X.cell? ⟨l.b, 0, none⟩ = some (.slice (some ⟨l.bs 0, l.os 0, none⟩) m (l.cs 0)) := M0.out.cellRow hn0
    by_cases h1 : m = 1
    · have hm1 : ((m : Int) == 1) = true := by rw [beq_iff_eq]; omega
      have HM1 : Hid (m = 1) := h1
      clear h1
      go_wp2
      refine ⟨.agg #[.int .i64 0, .slice none 0 0], by simp [results, Try.results50, go_sem, c0, c1], _, by rw [HCC.out], Or.inl ⟨Or.inr ?_, none, 0, rfl⟩, ?_⟩
      · rw [← HMM.out, HM1.out]; rfl
      · first | exact (HB.out.setCell (p := ⟨w.heap.size + 1, 0, none⟩) (by simp) _).setCell (p := ⟨w.heap.size + 1, 1, none⟩) (by simp) _ | exact HB.out
    · have hm1 : ((m : Int) == 1) = false := by rw [beq_eq_false_iff_ne]; omega
      obtain ⟨n1, hn1⟩ : ∃ q : Nat, n = q + 1 := ⟨n - 1, by omega⟩
      obtain ⟨m1, hmm1⟩ : ∃ q : Nat, m = q + 1 := ⟨m - 1, by omega⟩
      have hn1b : n1 ≤ 31 := by omega
      have hm1b : m1 ≤ 31 := by omega
      have hm10 : 0 < m1 := by omega
      have hn1c : n1 ≤ 1000000000000 := by omega
      have hm1c : m1 ≤ 1000000000000 := by omega
      have wn3 : (n : Int) - 1 = (n1 : Int) := by omega
      have wm3 : (m : Int) - 1 = (m1 : Int) := by omega
      have HNM : Hid (n = n1 + 1 ∧ m = m1 + 1 ∧ m ≠ 1) := ⟨hn1, hmm1, h1⟩
      have zn : (n1 : Int) ≤ 31 := by omega
      have zm : (m1 : Int) ≤ 31 := by omega
      have zn0 : 0 ≤ (n1 : Int) := by omega
      have zm0 : 0 ≤ (m1 : Int) := by omega
      clear hn1 hmm1 h1
      have wn4 : IntKind.i64.wrap (n1 : Int) = (n1 : Int) := small_k zn0 zn
      have wn5 : wrap64 (n1 : Int) = (n1 : Int) := small_w zn0 zn
      have wm4 : IntKind.i64.wrap (m1 : Int) = (m1 : Int) := small_k zm0 zm
      have wm5 : wrap64 (m1 : Int) = (m1 : Int) := small_w zm0 zm
      go_upto_region 6 with fail
      have kr : ∀ W, Below X.heap.size X W → W.cell? ⟨l.b, 0, none⟩ = some (.slice (some ⟨l.bs 0, l.os 0, none⟩) m (l.cs 0)) := fun W h => kold h t0
      have kb : ∀ W, Below X.heap.size X W → W.cell? ⟨w.heap.size, 0, none⟩ = some (.slice (some ⟨l.b, 0, none⟩) n l.cap) := fun W h => kold h r0
      have hR0 : Below X.heap.size X X := Below.refl _ _
      clear r0 t0 c0 c1 f0 f1
      go_cut [4] from 18 to 26 (fun pz wx => ∃ (kx lo hi : Nat) (lie : Lie), pz = .pointer (some ⟨kx, 0, none⟩) ∧ Hid (X.heap.size ≤ kx ∧ X.heap.size ≤ lo ∧ hi ≤ wx.heap.size ∧ (kx < lo ∨ hi ≤ kx) ∧ Below X.heap.size X wx ∧ Blk wx kx #[.slice (some ⟨lie.b, 0, none⟩) n1 lie.cap] 22 ∧ Mat lo hi wx lie n1 (fun _ => m1) (fun _ _ => 0)))
      case first =>
        go_region_held3 (fun W => Below X.heap.size X W) (go_grown) (first | (go_at_call 65; refine (zeroRows_any _ _ _ hn1c hm1c).mono ?_; rintro e wz ⟨rfl, hMz, hb1⟩; have hs1 := hb1.size; (try simp at hs1); have hR1 : Below X.heap.size X wz := (by refine box_step ?_ hb1 (by go_size); go_grown); (first | (have hZ := box_step hZ hb1 (Nat.le_refl _)) | (have hZ := hb1)); obtain ⟨ho1, hf1, hz1⟩ := olds hZ))
        all_goals
          go_wp2_with fail
          go_meet
          case rel =>
            first
              | exact ⟨wz.heap.size, X.heap.size, wz.heap.size, newLie X.heap.size n1 (fun _ => m1), rfl, hs1, Nat.le_refl _, by simp, Or.inr (Nat.le_refl _), by assumption, Blk.new rfl, hMz.alloc _ (Nat.le_refl _)⟩
              | exact ⟨X.heap.size, X.heap.size + 1, wz.heap.size, newLie (X.heap.size + 1) n1 (fun _ => m1), rfl, Nat.le_refl _, Nat.le_succ _, by simp, Or.inl (Nat.lt_succ_self _), by assumption, Blk.set (Blk.old (Blk.drew (Blk.new rfl)) hZ) 0 _ rfl, Mat.keep (by simpa using hMz) (fun k h1 h2 => Below.heap_setCell _ _ _ _ (by show k ≠ X.heap.size; exact Nat.ne_of_gt h1))⟩
      case rest =>
        obtain ⟨kx, lo, hi, lie, rfl, HC⟩ := hcut
        clear kr kb hR0 wn3 wm3 wn4 wm4 wn5 wm5
        have c1 := HC.out.2.2.2.2.2.1.cell (j := 0) rfl
        go_wp2_with (go_at_call 80; refine (nums_any _ _ _ _).mono ?_; rintro e w1 ⟨rfl, hw1⟩)
        obtain ⟨W0, hW0⟩ : ∃ W0, W0 = wc.alloc (.cells #[.slice (some ⟨lie.b, 0, none⟩) n1 lie.cap] 22) := ⟨_, rfl⟩
        rw [← hW0]
        have YW : Below wc.heap.size wc W0 := by rw [hW0]; exact (Below.refl _ _).alloc (Nat.le_refl _) _
        have zW : wc.heap.size + 1 ≤ W0.heap.size := by rw [hW0]; simp
        have cB : W0.cell? ⟨wc.heap.size, 0, none⟩ = some (.slice (some ⟨lie.b, 0, none⟩) n1 lie.cap) := by rw [hW0]; exact (Blk.new rfl : Blk _ _ _ _).cell (j := 0) rfl
        clear hW0
        obtain ⟨hk1, hlo, hhi, hap, hbX, hBk, hMk⟩ := HC.out
        have hkY := hBk.lt
        have bW : Below w.heap.size w W0 := (HB.out.trans (hbX.mono HB.out.size)).trans (YW.mono (Nat.le_trans HB.out.size hbX.size))
        have MW : Mat lo hi W0 lie n1 (fun _ => m1) (fun _ _ => 0) := hMk.keep fun k _ h2 => YW.block k (by omega)
        have SW : Shp (fun _ _ _ => True) lie.b 0 n1 m1 (fun i => (lie.bs i, lie.os i, lie.cs i)) W0 := MW.shpT
        have hi0B : hi0 ≤ W0.heap.size := by have := hbX.size; omega
        have hXW : X.heap.size ≤ W0.heap.size := by have := hbX.size; omega
        have P0 : (∃ A, Mat lo hi W0 lie n1 (fun _ => m1) A ∧ FillTo (knm F) n1 m1 0 A) ∧ Blk W0 kx #[.slice (some ⟨lie.b, 0, none⟩) n1 lie.cap] 22 ∧ Blk W0 w.heap.size #[.slice (some ⟨l.b, 0, none⟩) n l.cap] 22 ∧ Blk W0 (w.heap.size + 1) #[.int .i64 0, .slice none 0 0] 47 ∧ Below w.heap.size w W0 :=
          ⟨⟨_, MW, fun i j _ _ h => absurd h (by omega)⟩, hBk.old YW, (RX.out.old hbX).old YW, (BX.out.old hbX).old YW, bW⟩
        clear hbX hBk hMk MW bW YW
        refine (wpIn_wide (n := 6)).1 ?_
        refine wpIn_rangeFunc_ownH rfl (by omega) (gf := 102) (lb := #[.pointer (some ⟨wc.heap.size, 0, none⟩)]) rfl trivial (enters_of Try.func102 (by kernel_rfl) rfl)
          (nums_stops Fence.wide 5 trivial rfl (by omega) wc.heap.size lie.b 0 n1 m1 lie.cap (fun _ _ _ => True) (fun i => (lie.bs i, lie.os i, lie.cs i)) (by omega) (by omega) W0 cB SW) (fun h k => shpK_t h k) shpK_b (Below.refl _ _) (fun _ => rfl)
          (fun pre W => W0.heap.size ≤ W.heap.size ∧ ((∃ A, Mat lo hi W lie n1 (fun _ => m1) A ∧ (pre.map plc = plcs m1 pre.length → FillTo (knm F) n1 m1 pre.length A)) ∧ Blk W kx #[.slice (some ⟨lie.b, 0, none⟩) n1 lie.cap] 22 ∧ Blk W w.heap.size #[.slice (some ⟨l.b, 0, none⟩) n l.cap] 22 ∧ Blk W (w.heap.size + 1) #[.int .i64 0, .slice none 0 0] 47 ∧ Below w.heap.size w W))
          (fun _ _ _ => False)
          (own_low fun s W W' h hb => ⟨h.1.imp fun A hA => ⟨hA.1.keep fun k _ h2 => hb.block k (by omega), hA.2⟩, (hb.block _ (by omega)).trans h.2.1, (hb.block _ (by omega)).trans h.2.2.1, (hb.block _ (by omega)).trans h.2.2.2.1, h.2.2.2.2.trans (hb.mono (by omega))⟩)
          (fun _ _ _ _ _ hs _ _ => hs)
          ⟨Nat.le_refl _, P0.1.imp fun A hA => ⟨hA.1, fun _ => hA.2⟩, P0.2⟩
          (fun x a' W => ∃ Bx, W0.heap.size ≤ Bx ∧ Blk W Bx #[.int .i64 (x.1.1 : Int), .int .i64 (x.1.2.1 : Int)] 77 ∧ a' = { tmps := #[.slice (some ⟨l.b, 0, none⟩) n l.cap, .pointer (some ⟨w.heap.size, 0, none⟩), .pointer (some ⟨w.heap.size + 1, 0, none⟩), .int .i64 0, .pointer (some ⟨kx, 0, none⟩), .pointer (some ⟨Bx, 0, none⟩), .slice (some ⟨l.b, 0, none⟩) n l.cap, .int .i64 0, .int .i64 0, .bool false, undef, undef, .slice (some ⟨l.b, 0, none⟩) n l.cap, .pointer (some ⟨l.b, 0, none⟩), .slice (some ⟨l.bs 0, l.os 0, none⟩) m (l.cs 0), .int .i64 (m : Int), .bool false, undef, u18, u19, u20, u21, u22, u23, u24, u25, u26, .slice (some ⟨lie.b, 0, none⟩) n1 lie.cap, .func (.func 102) #[] #[.pointer (some ⟨wc.heap.size, 0, none⟩)], .agg #[.int .i64 (x.1.1 : Int), .int .i64 (x.1.2.1 : Int)], .int .i64 x.1.2.2, undef, undef, undef, undef, undef, undef, undef, undef, undef, undef, undef, undef, undef], defers := [] })
          (fun x a' _ X' Y' row hs hg hr => by obtain ⟨Bx, h1, h2, h3⟩ := hs; exact ⟨Bx, h1, blk_own () X' Y' row h2 hg hr, h3⟩)
          ?assign ?body ?done ?stop
        case assign =>
          rintro r pre x W K ⟨hz, ⟨A, hA, hA2⟩, hb1, hb2, hb4, hb3⟩ hK
          dsimp only [encAt]
          gi_wp2
          exact hK _ _ ((KeepsOthers.alloc _ _).from _) (fun h => h.later ((Below.refl _ _).alloc (Nat.le_refl _) _)) ⟨by simp; omega, ⟨A, hA.alloc _ (by omega), hA2⟩, hb1.alloc _, hb2.alloc _, hb4.alloc _, hb3.alloc hb3.size _⟩ ⟨W.heap.size, hz, Blk.new rfl, rfl⟩
        case body =>
          rintro r pre ⟨⟨i, j, p⟩, hi1, hj1, hp1⟩ a' W hl ⟨rr, hr⟩ ⟨hz, ⟨A, hA, hA2⟩, hb1, hb2, hb4, hb3⟩ ⟨Bx, hBx, bX, rfl⟩ hlt
          dsimp only at hi1 hj1 hp1 bX ⊢
          obtain ⟨hN1, hN2, hN3⟩ := HNM.out
          have ML : Mat lo0 hi0 W l n (fun _ => m) F := M0w.out.keep fun k _ h2 => hb3.block k (by omega)
          have HA : Hid (Mat lo hi W lie n1 (fun _ => m1) A ∧ (pre.map plc = plcs m1 pre.length → FillTo (knm F) n1 m1 pre.length A)) := ⟨hA, hA2⟩
          have HBB : Hid (Blk W kx #[.slice (some ⟨lie.b, 0, none⟩) n1 lie.cap] 22 ∧ Blk W w.heap.size #[.slice (some ⟨l.b, 0, none⟩) n l.cap] 22 ∧ Blk W (w.heap.size + 1) #[.int .i64 0, .slice none 0 0] 47 ∧ Below w.heap.size w W) := ⟨hb1, hb2, hb4, hb3⟩
          have v1 : W.cell? ⟨lie.b, i, none⟩ = some (.slice (some ⟨lie.bs i, lie.os i, none⟩) m1 (lie.cs i)) := hA.cellRow hi1
          have q0 : ∀ x : Kept W.heap.size W, x.w.cell? ⟨kx, 0, none⟩ = some (.slice (some ⟨lie.b, 0, none⟩) n1 lie.cap) := fun x => x.cell hb1.lt (hb1.cell (j := 0) rfl)
          have q1 : ∀ x : Kept W.heap.size W, x.w.cell? ⟨w.heap.size, 0, none⟩ = some (.slice (some ⟨l.b, 0, none⟩) n l.cap) := fun x => x.cell hb2.lt (hb2.cell (j := 0) rfl)
          have q2 : ∀ x : Kept W.heap.size W, x.w.cell? ⟨Bx, 0, none⟩ = some (.int .i64 (i : Int)) := fun x => x.cell bX.lt (bX.cell (j := 0) rfl)
          have q3 : ∀ x : Kept W.heap.size W, x.w.cell? ⟨Bx, 1, none⟩ = some (.int .i64 (j : Int)) := fun x => x.cell bX.lt (bX.cell (j := 1) rfl)
          have q6 : ∀ x : Kept W.heap.size W, x.w.cell? ⟨lie.b, i, none⟩ = some (.slice (some ⟨lie.bs i, lie.os i, none⟩) m1 (lie.cs i)) := fun x => x.cell (World.block_lt_of_cell? _ _ v1) v1
          have iK : ∀ x : Kept W.heap.size W, Calls Try.prog 81 #[.slice (some ⟨l.b, 0, none⟩) n l.cap, .agg #[.int .i64 (i : Int), .int .i64 (j : Int)]] x.w fun e w' => e = .returned (.int .i64 (knm F i j)) ∧ Below x.w.heap.size x.w w' := by
            intro x
            have o1 : W.cell? ⟨l.b, 0 + i, none⟩ = some (.slice (some ⟨l.bs i, l.os i, none⟩) m (l.cs i)) := by rw [Nat.zero_add]; exact ML.cellRow (by omega)
            have o2 : W.cell? ⟨l.b, 0 + (i + 1), none⟩ = some (.slice (some ⟨l.bs (i + 1), l.os (i + 1), none⟩) m (l.cs (i + 1))) := by rw [Nat.zero_add]; exact ML.cellRow (by omega)
            have o3 := ML.cellAt (i := i) (j := j) (by omega) (by omega)
            have o4 := ML.cellAt (i := i) (j := j + 1) (by omega) (by omega)
            have o5 := ML.cellAt (i := i + 1) (j := j + 1) (by omega) (by omega)
            have o6 := ML.cellAt (i := i + 1) (j := j) (by omega) (by omega)
            exact knotAt_any i j l.b 0 n l.cap _ _ _ _ m _ _ _ _ _ _ x.w (by omega) (by omega) (by omega) (by omega) (x.cell (World.block_lt_of_cell? _ _ o1) o1) (x.cell (World.block_lt_of_cell? _ _ o2) o2) (x.cell (World.block_lt_of_cell? _ _ o3) o3) (x.cell (World.block_lt_of_cell? _ _ o4) o4) (x.cell (World.block_lt_of_cell? _ _ o5) o5) (x.cell (World.block_lt_of_cell? _ _ o6) o6)
          clear hA hA2 hb1 hb2 hb4 hb3 bX hr v1 ML hN1 hN2 hN3
          refine wpIn_block ?_
          refine round_last W.heap.size (by kernel_rfl) rfl rfl (by kernel_rfl) (lastOk_of (by kernel_rfl)) ?_ (by kernel_rfl) (by rintro ⟨_, _, h⟩; exact h)
          intro hne
          dsimp only [List.dropLast]
          repeat (go_big_quiet_step (first | (go_at_call 81; exact Calls.kept_of (Nat.le_refl _) (iK _))))
          refine wpQuiet_nil ?_
          rintro u5 ⟨xk, hxk⟩
          have hR1 := xk.h
          rw [← hxk] at hR1
          clear hxk xk hne q0 q1 q2 q3 q6 iK
          have M5 : Hid (Mat lo hi u5 lie n1 (fun _ => m1) A) := HA.out.1.keep fun k _ h2 => hR1.block k (by omega)
          have g1 : u5.cell? ⟨lie.bs i, lie.os i + j, none⟩ = some (.int .i64 (A i j)) := M5.out.cellAt hi1 hj1
          have g2 : u5.frozen? ⟨lie.bs i, lie.os i + j, none⟩ = false := (M5.out.row i hi1).frozen _
          have hbl := M5.out.rlo i hi1
          have hbh := M5.out.rhi i hi1
          have FIN : Hid (KeepsFrom W0.heap.size W (u5.setCell ⟨lie.bs i, lie.os i + j, none⟩ (.int .i64 (knm F i j))) ∧ (Shp (fun _ _ _ => True) lie.b 0 n1 m1 (fun i => (lie.bs i, lie.os i, lie.cs i)) W → Shp (fun _ _ _ => True) lie.b 0 n1 m1 (fun i => (lie.bs i, lie.os i, lie.cs i)) (u5.setCell ⟨lie.bs i, lie.os i + j, none⟩ (.int .i64 (knm F i j)))) ∧
              W0.heap.size ≤ (u5.setCell ⟨lie.bs i, lie.os i + j, none⟩ (.int .i64 (knm F i j))).heap.size ∧ ((∃ A', Mat lo hi (u5.setCell ⟨lie.bs i, lie.os i + j, none⟩ (.int .i64 (knm F i j))) lie n1 (fun _ => m1) A' ∧ ((pre ++ [(⟨(i, j, p), hi1, hj1, trivial⟩ : At (fun _ _ _ => True) n1 m1)]).map plc = plcs m1 (pre ++ [(⟨(i, j, p), hi1, hj1, trivial⟩ : At (fun _ _ _ => True) n1 m1)]).length → FillTo (knm F) n1 m1 (pre ++ [(⟨(i, j, p), hi1, hj1, trivial⟩ : At (fun _ _ _ => True) n1 m1)]).length A')) ∧
                Blk (u5.setCell ⟨lie.bs i, lie.os i + j, none⟩ (.int .i64 (knm F i j))) kx #[.slice (some ⟨lie.b, 0, none⟩) n1 lie.cap] 22 ∧ Blk (u5.setCell ⟨lie.bs i, lie.os i + j, none⟩ (.int .i64 (knm F i j))) w.heap.size #[.slice (some ⟨l.b, 0, none⟩) n l.cap] 22 ∧ Blk (u5.setCell ⟨lie.bs i, lie.os i + j, none⟩ (.int .i64 (knm F i j))) (w.heap.size + 1) #[.int .i64 0, .slice none 0 0] 47 ∧ Below w.heap.size w (u5.setCell ⟨lie.bs i, lie.os i + j, none⟩ (.int .i64 (knm F i j))))) := by
            have MN := M5.out.set hi1 hj1 (knm F i j)
            refine ⟨(keepsFrom_below hR1).trans (keepsFrom_set _ _ _), fun _ => MN.shpT, ?_, ⟨_, MN, ?_⟩, (HBB.out.1.old hR1).setOther (p := ⟨lie.bs i, lie.os i + j, none⟩) (by show kx ≠ lie.bs i; omega) _, (HBB.out.2.1.old hR1).setOther (p := ⟨lie.bs i, lie.os i + j, none⟩) (by show w.heap.size ≠ lie.bs i; omega) _, (HBB.out.2.2.1.old hR1).setOther (p := ⟨lie.bs i, lie.os i + j, none⟩) (by show w.heap.size + 1 ≠ lie.bs i; omega) _, (HBB.out.2.2.2.trans (hR1.mono HBB.out.2.2.2.size)).setCell (p := ⟨lie.bs i, lie.os i + j, none⟩) (by show w.heap.size ≤ lie.bs i; omega) _⟩
            · have := hR1.size; simp; omega
            · intro hpl
              rw [List.map_append, List.length_append] at hpl
              obtain ⟨h1, h2⟩ := plcs_snoc hpl
              have e := Nat.div_add_mod pre.length m1
              simp only [plc, Prod.mk.injEq] at h2
              rw [← h2.1, ← h2.2] at e
              have := fill_step (HA.out.2 h1) hi1 hj1 (by rw [Nat.mul_comm]; exact e)
              rw [List.length_append]
              exact this
          clear hR1 M5 hbl hbh
          go_wp2
          exact FIN.out
        case done =>
          rintro D ys W hD hys ⟨hz, ⟨A, hA, hA2⟩, hb1, hb2, hb4, hb3⟩ hK
          have HA : Hid (Mat lo hi W lie n1 (fun _ => m1) A ∧ (ys.map plc = plcs m1 ys.length → FillTo (knm F) n1 m1 ys.length A)) := ⟨hA, hA2⟩
          have HBB : Hid (Below w.heap.size w W ∧ W.heap[D]? = some (.deferred (some [])) ∧ Blk W (w.heap.size + 1) #[.int .i64 0, .slice none 0 0] 47) := ⟨hb3, hK, hb4⟩
          have x0 := hb1.cell (j := 0) rfl
          have y0 := hb4.cell (j := 0) rfl
          have y1 := hb4.cell (j := 1) rfl
          have g0 := hb4.frozen 0
          have g1 := hb4.frozen 1
          clear hA hA2 hb1 hb2 hb4 hb3 hK
          dsimp only
          go_wp2
          obtain ⟨Z, hZ⟩ : ∃ Z, Z = (W.setCell ⟨w.heap.size + 1, 0, none⟩ (.int .i64 0)).setCell ⟨w.heap.size + 1, 1, none⟩ (.slice (some ⟨lie.b, 0, none⟩) n1 lie.cap) := ⟨_, rfl⟩
          rw [← hZ]
          have KZ : Z.heap[D]? = some (.deferred (some [])) := by rw [hZ]; exact ((KeepsOthers.setCell W _ _).trans (KeepsOthers.setCell _ _ _)).same D _ HBB.out.2.1 rfl
          have BZ : Blk Z (w.heap.size + 1) #[.int .i64 0, .slice (some ⟨lie.b, 0, none⟩) n1 lie.cap] 47 := by rw [hZ]; exact Blk.set (Blk.set HBB.out.2.2 0 _ rfl) 1 _ rfl
          have zZ : Z.heap.size = W.heap.size := by rw [hZ]; simp
          have MZ : Mat lo hi Z lie n1 (fun _ => m1) A := by
            rw [hZ]
            exact HA.out.1.keep fun k h1 _ => (Below.heap_setCell _ _ _ _ (by show k ≠ w.heap.size + 1; omega)).trans (Below.heap_setCell _ _ _ _ (by show k ≠ w.heap.size + 1; omega))
          have bZ : Below w.heap.size w Z := by rw [hZ]; exact (HBB.out.1.setCell (p := ⟨w.heap.size + 1, 0, none⟩) (by simp) _).setCell (p := ⟨w.heap.size + 1, 1, none⟩) (by simp) _
          clear hZ
          refine ⟨by simp, .inl ⟨_, _, rfl, run_takeDeferred KZ, ?_⟩⟩
          have hlen : ys.length = n1 * m1 := by rw [← List.length_map (f := plc), hys, plcs_length]
          have bP : Below W0.heap.size Z (Z.putObj D (.deferred none)) := (Below.refl _ Z).grown (grownBy_putObj' Z D _) (by omega) (fun k e => by cases e; exact hD)
          have BP : Blk (Z.putObj D (.deferred none)) (w.heap.size + 1) #[.int .i64 0, .slice (some ⟨lie.b, 0, none⟩) n1 lie.cap] 47 := (bP.block _ (by omega)).trans BZ
          have p0 := BP.cell (j := 0) rfl
          have p1 := BP.cell (j := 1) rfl
          have hd := HA.out.2 (by rw [hlen]; exact hys)
          rw [hlen] at hd
          obtain ⟨hN1, hN2, hN3⟩ := HNM.out
          have ekn : knr n (L 0) = n1 := by rw [← HMM.out]; unfold knr; rw [if_neg hN3]; omega
          have ekm : L 0 - 1 = m1 := by rw [← HMM.out]; omega
          refine ⟨.agg #[.int .i64 0, .slice (some ⟨lie.b, 0, none⟩) n1 lie.cap], by simp [results, Try.results50, go_sem, p0, p1], .slice (some ⟨lie.b, 0, none⟩) n1 lie.cap, by rw [HCC.out], ?_, bZ.trans (bP.mono (by omega))⟩
          rw [ekn, ekm, HCC.out]
          by_cases hq : n1 = 0
          · exact Or.inl ⟨Or.inr hq, some ⟨lie.b, 0, none⟩, lie.cap, by rw [hq]⟩
          · refine Or.inr ⟨⟨rfl, by omega⟩, lie, rfl, ?_⟩
            refine ((MZ.congr fun i j h1 h2 => hd i j h1 h2 ?_).keep fun k _ h2 => bP.block k (by omega)).wide (by omega) ?_
            · have : (i + 1) * m1 ≤ n1 * m1 := Nat.mul_le_mul_right m1 h1
              rw [Nat.succ_mul] at this
              omega
            · simp
              omega
        case stop =>
          rintro D c pre W _ _ h _
          exact h.elim
  · have hc0 : (mapc n L != 0) = true := by rw [bne_iff_ne]; exact hc
    have H0 : Hid (mapc n L ≠ 0) := hc
    obtain ⟨code, hcode⟩ : ∃ c, c = mapc n L := ⟨_, rfl⟩
    have HCO : Hid (code = mapc n L) := hcode
    rw [← hcode] at hc0 ⊢
    clear hc HM HL hcode
    go_wp2
    refine ⟨.agg #[.int .i64 code, .slice none 0 0], by simp [results, Try.results50, go_sem, c0, c1], _, by rw [HCO.out], Or.inl ⟨Or.inl H0.out, none, 0, rfl⟩, ?_⟩
    exact (HB.out.setCell (p := ⟨w.heap.size + 1, 0, none⟩) (by simp) _).setCell (p := ⟨w.heap.size + 1, 1, none⟩) (by simp) _
end Go.Proofs.Ytbagaicbochmnaa
