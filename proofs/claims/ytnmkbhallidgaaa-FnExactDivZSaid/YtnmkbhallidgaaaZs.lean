/- Complex quotients: contract of the specification's. -/
import Derived.Test.YtnmkbhallidgaaaZq
namespace Go.Proofs.Ytnmkbhallidgaaa
open Go.RowKit Fl
set_option linter.unusedVariables false
set_option linter.unusedSimpArgs false
def Drawn (Y W : World) : Prop := ∃ q, W = Y.drewN q
theorem drawn_refl (Y : World) : Drawn Y Y := ⟨0, rfl⟩
theorem drawn_drewN {Y W : World} (h : Drawn Y W) (q : Nat) : Drawn Y (W.drewN q) := by
  obtain ⟨n, rfl⟩ := h
  exact ⟨n + q, by rw [World.drewN_drewN]⟩
theorem drawn_opW {Y W : World} (h : Drawn Y W) (op : BinOp) (x y : Nat) : Drawn Y (opW op x y W) := by
  obtain ⟨q, hq⟩ := opW_drewN op x y W
  rw [hq]
  exact drawn_drewN h q
set_option maxRecDepth 100000 in
set_option maxHeartbeats 1600000 in
theorem sDiv_nan0 {a b c d : Nat} (Na : Says 64 a true) (w : World) : ZV 27 #[Zv a b, Zv c d] w (none, none) := by
  unfold ZV
  have hst := st64
  have Ha : Hid (Says 64 a true) := Na
  clear Na
  go_enter Try.func27, Try.ntmps27
  go_wp2_with (first | (go_at_call_of 64 (Value.float FloatKind.f64 a); refine (Ha.out _).mono ?_; rintro e w1 ⟨rfl, rfl⟩) | (go_at_call 65; refine (nan_any _).mono ?_; rintro e w1 ⟨x, q, rfl, hx, rfl⟩))
  refine bodyPost_ret (v := Zv _ _) (by simp [results, Try.results27, go_sem]) rfl ⟨_, _, rfl, ⟨hx.lx, hx.lx, by rw [hx.c]⟩, ?_⟩
  repeat (first | exact Below.refl _ _ | refine Below.setCell ?_ (by simp <;> omega) _ | refine below_drewN ?_ _ | refine Below.alloc ?_ (by simp <;> omega) _)
set_option maxRecDepth 100000 in
set_option maxHeartbeats 1600000 in
theorem sDiv_nan1 {a b c d : Nat} (Na : Says 64 a false) (Nb : Says 64 b true) (w : World) : ZV 27 #[Zv a b, Zv c d] w (none, none) := by
  unfold ZV
  have hst := st64
  have Ha : Hid (Says 64 a false) := Na
  clear Na
  have Hb : Hid (Says 64 b true) := Nb
  clear Nb
  go_enter Try.func27, Try.ntmps27
  go_wp2_with (first | (go_at_call_of 64 (Value.float FloatKind.f64 a); refine (Ha.out _).mono ?_; rintro e w1 ⟨rfl, rfl⟩) | (go_at_call_of 64 (Value.float FloatKind.f64 b); refine (Hb.out _).mono ?_; rintro e w1 ⟨rfl, rfl⟩) | (go_at_call 65; refine (nan_any _).mono ?_; rintro e w1 ⟨x, q, rfl, hx, rfl⟩))
  refine bodyPost_ret (v := Zv _ _) (by simp [results, Try.results27, go_sem]) rfl ⟨_, _, rfl, ⟨hx.lx, hx.lx, by rw [hx.c]⟩, ?_⟩
  repeat (first | exact Below.refl _ _ | refine Below.setCell ?_ (by simp <;> omega) _ | refine below_drewN ?_ _ | refine Below.alloc ?_ (by simp <;> omega) _)
set_option maxRecDepth 100000 in
set_option maxHeartbeats 1600000 in
theorem sDiv_nan2 {a b c d : Nat} (Na : Says 64 a false) (Nb : Says 64 b false) (Nc : Says 64 c true) (w : World) : ZV 27 #[Zv a b, Zv c d] w (none, none) := by
  unfold ZV
  have hst := st64
  have Ha : Hid (Says 64 a false) := Na
  clear Na
  have Hb : Hid (Says 64 b false) := Nb
  clear Nb
  have Hc : Hid (Says 64 c true) := Nc
  clear Nc
  go_enter Try.func27, Try.ntmps27
  go_wp2_with (first | (go_at_call_of 64 (Value.float FloatKind.f64 a); refine (Ha.out _).mono ?_; rintro e w1 ⟨rfl, rfl⟩) | (go_at_call_of 64 (Value.float FloatKind.f64 b); refine (Hb.out _).mono ?_; rintro e w1 ⟨rfl, rfl⟩) | (go_at_call_of 64 (Value.float FloatKind.f64 c); refine (Hc.out _).mono ?_; rintro e w1 ⟨rfl, rfl⟩) | (go_at_call 65; refine (nan_any _).mono ?_; rintro e w1 ⟨x, q, rfl, hx, rfl⟩))
  refine bodyPost_ret (v := Zv _ _) (by simp [results, Try.results27, go_sem]) rfl ⟨_, _, rfl, ⟨hx.lx, hx.lx, by rw [hx.c]⟩, ?_⟩
  repeat (first | exact Below.refl _ _ | refine Below.setCell ?_ (by simp <;> omega) _ | refine below_drewN ?_ _ | refine Below.alloc ?_ (by simp <;> omega) _)
set_option maxRecDepth 100000 in
set_option maxHeartbeats 1600000 in
theorem sDiv_nan3 {a b c d : Nat} (Na : Says 64 a false) (Nb : Says 64 b false) (Nc : Says 64 c false) (Nd : Says 64 d true) (w : World) : ZV 27 #[Zv a b, Zv c d] w (none, none) := by
  unfold ZV
  have hst := st64
  have Ha : Hid (Says 64 a false) := Na
  clear Na
  have Hb : Hid (Says 64 b false) := Nb
  clear Nb
  have Hc : Hid (Says 64 c false) := Nc
  clear Nc
  have Hd : Hid (Says 64 d true) := Nd
  clear Nd
  go_enter Try.func27, Try.ntmps27
  go_wp2_with (first | (go_at_call_of 64 (Value.float FloatKind.f64 a); refine (Ha.out _).mono ?_; rintro e w1 ⟨rfl, rfl⟩) | (go_at_call_of 64 (Value.float FloatKind.f64 b); refine (Hb.out _).mono ?_; rintro e w1 ⟨rfl, rfl⟩) | (go_at_call_of 64 (Value.float FloatKind.f64 c); refine (Hc.out _).mono ?_; rintro e w1 ⟨rfl, rfl⟩) | (go_at_call_of 64 (Value.float FloatKind.f64 d); refine (Hd.out _).mono ?_; rintro e w1 ⟨rfl, rfl⟩) | (go_at_call 65; refine (nan_any _).mono ?_; rintro e w1 ⟨x, q, rfl, hx, rfl⟩))
  refine bodyPost_ret (v := Zv _ _) (by simp [results, Try.results27, go_sem]) rfl ⟨_, _, rfl, ⟨hx.lx, hx.lx, by rw [hx.c]⟩, ?_⟩
  repeat (first | exact Below.refl _ _ | refine Below.setCell ?_ (by simp <;> omega) _ | refine below_drewN ?_ _ | refine Below.alloc ?_ (by simp <;> omega) _)
set_option maxRecDepth 100000 in
set_option maxHeartbeats 6400000 in
theorem sDiv_num {a b c d : Nat} (ha : W64 a) (hb : W64 b) (hc : W64 c) (hd : W64 d) (na : Num a) (nb : Num b) (nc : Num c) (nd : Num d) (w : World) : ZV 27 #[Zv a b, Zv c d] w (quoC a b c d) := by
  unfold ZV
  have hst := st64
  have hmul := mul_run
  have hsub := sub_run
  have hadd := add_run
  have hquo := quo_run
  have hc1 := cell_opW
  have hc2 := frozen_opW
  have HH : Hid ((W64 a ∧ W64 b ∧ W64 c ∧ W64 d) ∧ Num a ∧ Num b ∧ Num c ∧ Num d) := ⟨⟨ha, hb, hc, hd⟩, na, nb, nc, nd⟩
  have Na : Hid (Says 64 a false) := nan_f ha na
  have Nb : Hid (Says 64 b false) := nan_f hb nb
  have Nc : Hid (Says 64 c false) := nan_f hc nc
  have Nd : Hid (Says 64 d false) := nan_f hd nd
  have Ac : Hid (Tells 66 c (rg c)) := abs_any hc nc
  have Ad : Hid (Tells 66 d (rg d)) := abs_any hd nd
  have HG : Hid ((FloatKind.f64.format.order (rg c) (rg d) = some .gt ∧ geq c d = true) ∨ (FloatKind.f64.format.order (rg c) (rg d) = some .eq ∧ geq c d = true) ∨ (FloatKind.f64.format.order (rg c) (rg d) = some .lt ∧ geq c d = false)) := by
    have h1 := geq_order nc nd
    have h2 := order_le false false (r := rg c) (q := rg d) nc nd
    rw [dW_false, dW_false] at h2
    have h3 : FloatKind.f64.format.order (rg c) (rg d) = Ieee.double.order (rg c) (rg d) := rfl
    rw [h3]
    rw [h2] at h1 ⊢
    cases h : compare (sv false (rg c)) (sv false (rg d)) with
    | lt => right; right; rw [h] at h1; exact ⟨rfl, h1.symm⟩
    | eq => right; left; rw [h] at h1; exact ⟨rfl, h1.symm⟩
    | gt => left; rw [h] at h1; exact ⟨rfl, h1.symm⟩
  clear ha hb hc hd na nb nc nd
  obtain ⟨X, hX⟩ : ∃ X, X = ((w.alloc (.cells #[.float .f64 a, .float .f64 b] 28)).alloc (.cells #[.float .f64 c, .float .f64 d] 28)) := ⟨_, rfl⟩
  obtain ⟨Y, hY⟩ : ∃ Y, Y = X.alloc (.cells #[.float .f64 0, .float .f64 0] 28) := ⟨_, rfl⟩
  have HY : Hid (Below w.heap.size w X ∧ Own (w.heap.size + 1 + 1) X (w.heap.size + 1 + 1) 2 28 Y) := by
    refine ⟨by rw [hX]; exact ((Below.refl _ _).alloc (by simp) _).alloc (by simp) _, ?_⟩
    have := own_made (X := X) (t := 28) #[.float .f64 0, .float .f64 0] (Nat.le_refl _)
    rw [hY, hX] at *
    simpa using this
  have y00 : Y.cell? ⟨w.heap.size, 0, none⟩ = some (.float .f64 a) := HY.out.2.old (by simp <;> omega) (by rw [hX]; simp)
  have y01 : Y.cell? ⟨w.heap.size, 1, none⟩ = some (.float .f64 b) := HY.out.2.old (by simp <;> omega) (by rw [hX]; simp)
  have y10 : Y.cell? ⟨w.heap.size + 1, 0, none⟩ = some (.float .f64 c) := HY.out.2.old (by simp <;> omega) (by rw [hX]; simp)
  have y11 : Y.cell? ⟨w.heap.size + 1, 1, none⟩ = some (.float .f64 d) := HY.out.2.old (by simp <;> omega) (by rw [hX]; simp)
  have y20 : Y.cell? ⟨w.heap.size + 1 + 1, 0, none⟩ = some (got Y (w.heap.size + 1 + 1) 0) := HY.out.2.cell (by omega)
  have y21 : Y.cell? ⟨w.heap.size + 1 + 1, 1, none⟩ = some (got Y (w.heap.size + 1 + 1) 1) := HY.out.2.cell (by omega)
  have yf : ∀ j, Y.frozen? ⟨w.heap.size + 1 + 1, j, none⟩ = false := fun j => HY.out.2.frozen j
  go_enter Try.func27, Try.ntmps27
  go_upto_region 1 with fail
  rw [← hX, ← hY]
  clear hX hY
  go_upto_if 49 with (first | (go_at_call_of 64 (Value.float FloatKind.f64 a); refine (Na.out _).mono ?_; rintro e w1 ⟨rfl, rfl⟩) | (go_at_call_of 64 (Value.float FloatKind.f64 b); refine (Nb.out _).mono ?_; rintro e w1 ⟨rfl, rfl⟩) | (go_at_call_of 64 (Value.float FloatKind.f64 c); refine (Nc.out _).mono ?_; rintro e w1 ⟨rfl, rfl⟩) | (go_at_call_of 64 (Value.float FloatKind.f64 d); refine (Nd.out _).mono ?_; rintro e w1 ⟨rfl, rfl⟩) | (go_at_call_of 66 (Value.float FloatKind.f64 c); refine (Ac.out _).mono ?_; rintro e w1 ⟨rfl, rfl⟩) | (go_at_call_of 66 (Value.float FloatKind.f64 d); refine (Ad.out _).mono ?_; rintro e w1 ⟨rfl, rfl⟩))
  go_cut [6, 7] from 10 to 101 (fun e f wx => ∃ x y : Nat, e = .float .f64 x ∧ f = .float .f64 y ∧ Zc x y (quoRaw a b c d) ∧ Drawn Y wx)
  case first =>
    rcases HG.out with ⟨h1, h2⟩ | ⟨h1, h2⟩ | ⟨h1, h2⟩
    · have HQ : Hid (quoRaw a b c d = quoHi a b c d) := by unfold quoRaw; rw [h2]; rfl
      clear h2 HG
      go_wp2
      go_meet
      case rel =>
        refine ⟨_, _, rfl, rfl, ⟨opV_lt _ _ _ _, opV_lt _ _ _ _, ?_⟩, ?_⟩
        · obtain ⟨⟨ha, hb, hc, hd⟩, _⟩ := HH.out
          rw [HQ.out]
          simp only [opV_cl, opV_lt, ha, hb, hc, hd]
          rfl
        · repeat (first | exact drawn_refl _ | refine drawn_opW ?_ _ _ _)
      rename_i hx
      rw [h1] at hx
      simp at hx
    · have HQ : Hid (quoRaw a b c d = quoHi a b c d) := by unfold quoRaw; rw [h2]; rfl
      clear h2 HG
      go_wp2
      go_meet
      case rel =>
        refine ⟨_, _, rfl, rfl, ⟨opV_lt _ _ _ _, opV_lt _ _ _ _, ?_⟩, ?_⟩
        · obtain ⟨⟨ha, hb, hc, hd⟩, _⟩ := HH.out
          rw [HQ.out]
          simp only [opV_cl, opV_lt, ha, hb, hc, hd]
          rfl
        · repeat (first | exact drawn_refl _ | refine drawn_opW ?_ _ _ _)
      rename_i hx
      rw [h1] at hx
      simp at hx
    · have HQ : Hid (quoRaw a b c d = quoLo a b c d) := by unfold quoRaw; rw [h2]; rfl
      clear h2 HG
      go_wp2
      · rename_i hx
        rw [h1] at hx
        simp at hx
      go_meet
      case rel =>
        refine ⟨_, _, rfl, rfl, ⟨opV_lt _ _ _ _, opV_lt _ _ _ _, ?_⟩, ?_⟩
        · obtain ⟨⟨ha, hb, hc, hd⟩, _⟩ := HH.out
          rw [HQ.out]
          simp only [opV_cl, opV_lt, ha, hb, hc, hd]
          rfl
        · repeat (first | exact drawn_refl _ | refine drawn_opW ?_ _ _ _)
  case rest =>
    obtain ⟨x, y, rfl, rfl, hxy, q, rfl⟩ := hcut
    clear HG Ac Ad
    by_cases nx : Num x
    · have Nx : Hid (Says 64 x false) := nan_f hxy.lx nx
      have HQ0 : quoC a b c d = quoRaw a b c d := by unfold quoC; rw [if_pos (Or.inl (by rw [← hxy.c]; simp [cl_num nx]))]
      have HQ : Hid (quoC a b c d = quoRaw a b c d) := HQ0
      clear HQ0
      clear nx
      go_wp2_with (first | (go_at_call_of 64 (Value.float FloatKind.f64 x); refine (Nx.out _).mono ?_; rintro e w1 ⟨rfl, rfl⟩))
      refine bodyPost_ret (v := Zv _ _) (by (simp [results, Try.results27, go_sem, y20, y21]); exact ⟨rfl, rfl⟩) rfl ⟨_, _, rfl, by rw [HQ.out]; exact hxy, Own.out (Own.set (Own.set (Own.drewN HY.out.2 _) _ _) _ _) HY.out.1 (by omega)⟩
    have Nx : Hid (Says 64 x true) := nan_t hxy.lx nx
    by_cases ny : Num y
    · have Ny : Hid (Says 64 y false) := nan_f hxy.ly ny
      have HQ0 : quoC a b c d = quoRaw a b c d := by unfold quoC; rw [if_pos (Or.inr (by rw [← hxy.c]; simp [cl_num ny]))]
      have HQ : Hid (quoC a b c d = quoRaw a b c d) := HQ0
      clear HQ0
      clear nx ny
      go_wp2_with (first | (go_at_call_of 64 (Value.float FloatKind.f64 x); refine (Nx.out _).mono ?_; rintro e w1 ⟨rfl, rfl⟩) | (go_at_call_of 64 (Value.float FloatKind.f64 y); refine (Ny.out _).mono ?_; rintro e w1 ⟨rfl, rfl⟩))
      refine bodyPost_ret (v := Zv _ _) (by (simp [results, Try.results27, go_sem, y20, y21]); exact ⟨rfl, rfl⟩) rfl ⟨_, _, rfl, by rw [HQ.out]; exact hxy, Own.out (Own.set (Own.set (Own.drewN HY.out.2 _) _ _) _ _) HY.out.1 (by omega)⟩
    have Ny : Hid (Says 64 y true) := nan_t hxy.ly ny
    have HN0 : ¬ ((quoRaw a b c d).1.isSome = true ∨ (quoRaw a b c d).2.isSome = true) := by rw [← hxy.c]; simp [cl_nan nx, cl_nan ny]
    have HN : Hid (¬ ((quoRaw a b c d).1.isSome = true ∨ (quoRaw a b c d).2.isSome = true)) := HN0
    clear HN0
    clear nx ny
    go_upto_region 20 with (first | (go_at_call_of 64 (Value.float FloatKind.f64 x); refine (Nx.out _).mono ?_; rintro e w1 ⟨rfl, rfl⟩) | (go_at_call_of 64 (Value.float FloatKind.f64 y); refine (Ny.out _).mono ?_; rintro e w1 ⟨rfl, rfl⟩) | (go_at_call 67; refine (inf_any _).mono ?_; rintro e w1 ⟨rfl, q2, rfl⟩))
    obtain ⟨Q, hQ⟩ : ∃ Q, Q = q + q2 := ⟨_, rfl⟩
    (try rw [World.drewN_drewN])
    rw [← hQ]
    clear hQ
    obtain ⟨zb, hzb⟩ : ∃ zb : Bool, zb = decide (rg c = 0 ∧ rg d = 0) := ⟨_, rfl⟩
    have HZ : Hid (zb = decide (rg c = 0 ∧ rg d = 0)) := hzb
    clear hzb
    go_cut [119] from 114 to 118 (fun v wx => v = .bool zb ∧ wx = Y.drewN Q)
    case first =>
      have oc := order_zero HH.out.1.2.2.1 HH.out.2.2.2.1
      have od := order_zero HH.out.1.2.2.2 HH.out.2.2.2.2
      by_cases z1 : rg c = 0
      · rw [if_pos z1] at oc
        by_cases z2 : rg d = 0
        · rw [if_pos z2] at od
          obtain rfl : zb = true := by rw [HZ.out]; simp [z1, z2]
          clear HZ HN Nx Ny z1 z2
          go_wp2
          go_meet
          case rel => exact ⟨rfl, rfl⟩
        · rw [if_neg z2] at od
          obtain rfl : zb = false := by rw [HZ.out]; simp [z2]
          clear HZ HN Nx Ny z1 z2
          by_cases s2 : sg d = true
          · rw [if_pos s2] at od
            clear s2
            go_wp2
            go_meet
            case rel => exact ⟨rfl, rfl⟩
          · rw [if_neg s2] at od
            clear s2
            go_wp2
            go_meet
            case rel => exact ⟨rfl, rfl⟩
      · rw [if_neg z1] at oc
        obtain rfl : zb = false := by rw [HZ.out]; simp [z1]
        clear HZ HN Nx Ny z1 od
        by_cases s1 : sg c = true
        · rw [if_pos s1] at oc
          clear s1
          go_wp2
          go_meet
          case rel => exact ⟨rfl, rfl⟩
        · rw [if_neg s1] at oc
          clear s1
          go_wp2
          go_meet
          case rel => exact ⟨rfl, rfl⟩
    case rest =>
    obtain ⟨rfl, rfl⟩ := hcut
    cases zb
    · have h2 : ¬ (rg c = 0 ∧ rg d = 0) := of_decide_eq_false HZ.out.symm
      obtain ⟨⟨ha, hb, hc, hd⟩, na, nb, nc, nd⟩ := HH.out
      obtain ⟨ia, hia⟩ : ∃ t : Bool, decide (rg a = 9218868437227405312) = t := ⟨_, rfl⟩
      have Ia : Hid (Says 69 a ia) := isInf_s ha na hia
      have Fa : Hid (Says 70 a (!ia)) := fin_b (nan_f ha na) (isInf_s ha na hia)
      have Oa : Hid (Tells 71 a (oneOf a)) := one_any ha na
      obtain ⟨ib, hib⟩ : ∃ t : Bool, decide (rg b = 9218868437227405312) = t := ⟨_, rfl⟩
      have Ib : Hid (Says 69 b ib) := isInf_s hb nb hib
      have Fb : Hid (Says 70 b (!ib)) := fin_b (nan_f hb nb) (isInf_s hb nb hib)
      have Ob : Hid (Tells 71 b (oneOf b)) := one_any hb nb
      obtain ⟨ic, hic⟩ : ∃ t : Bool, decide (rg c = 9218868437227405312) = t := ⟨_, rfl⟩
      have Ic : Hid (Says 69 c ic) := isInf_s hc nc hic
      have Fc : Hid (Says 70 c (!ic)) := fin_b (nan_f hc nc) (isInf_s hc nc hic)
      have Oc : Hid (Tells 71 c (oneOf c)) := one_any hc nc
      obtain ⟨jd, hjd⟩ : ∃ t : Bool, decide (rg d = 9218868437227405312) = t := ⟨_, rfl⟩
      have Id : Hid (Says 69 d jd) := isInf_s hd nd hjd
      have Fd : Hid (Says 70 d (!jd)) := fin_b (nan_f hd nd) (isInf_s hd nd hjd)
      have Od : Hid (Tells 71 d (oneOf d)) := one_any hd nd
      have HQ0 : quoC a b c d = if ((ia || ib) && !ic && !jd) = true then corC 9218868437227405312 (oneOf a) (oneOf b) c d else if ((ic || jd) && !ia && !ib) = true then corC 0 a b (oneOf c) (oneOf d) else quoRaw a b c d := by
        unfold quoC
        rw [if_neg HN.out, if_neg h2, ← hia, ← hib, ← hic, ← hjd]
        simp only [Bool.and_eq_true, Bool.or_eq_true, Bool.not_eq_true', decide_eq_true_eq, decide_eq_false_iff_not, and_assoc, ne_eq]
      have HQ : Hid (quoC a b c d = if ((ia || ib) && !ic && !jd) = true then corC 9218868437227405312 (oneOf a) (oneOf b) c d else if ((ic || jd) && !ia && !ib) = true then corC 0 a b (oneOf c) (oneOf d) else quoRaw a b c d) := HQ0
      clear HQ0 h2 HZ HN Nx Ny hia hib hic hjd ha hb hc hd na nb nc nd
      go_upto_region 22 with fail
      go_cut [148] from 133 to 147 (fun v wx => v = .bool ((ia || ib) && !ic && !jd) ∧ wx = Y.drewN Q)
      case first =>
        clear HQ
        cases ia
        · cases ib
          · go_wp2_with (first | (go_at_call_of 69 (Value.float FloatKind.f64 a); refine (Ia.out _).mono ?_; rintro e w1 ⟨rfl, rfl⟩) | (go_at_call_of 69 (Value.float FloatKind.f64 b); refine (Ib.out _).mono ?_; rintro e w1 ⟨rfl, rfl⟩) | (go_at_call_of 70 (Value.float FloatKind.f64 c); refine (Fc.out _).mono ?_; rintro e w1 ⟨rfl, rfl⟩) | (go_at_call_of 70 (Value.float FloatKind.f64 d); refine (Fd.out _).mono ?_; rintro e w1 ⟨rfl, rfl⟩))
            go_meet
            case rel => exact ⟨rfl, rfl⟩
          · cases ic
            · cases jd
              · go_wp2_with (first | (go_at_call_of 69 (Value.float FloatKind.f64 a); refine (Ia.out _).mono ?_; rintro e w1 ⟨rfl, rfl⟩) | (go_at_call_of 69 (Value.float FloatKind.f64 b); refine (Ib.out _).mono ?_; rintro e w1 ⟨rfl, rfl⟩) | (go_at_call_of 70 (Value.float FloatKind.f64 c); refine (Fc.out _).mono ?_; rintro e w1 ⟨rfl, rfl⟩) | (go_at_call_of 70 (Value.float FloatKind.f64 d); refine (Fd.out _).mono ?_; rintro e w1 ⟨rfl, rfl⟩))
                go_meet
                case rel => exact ⟨rfl, rfl⟩
              · go_wp2_with (first | (go_at_call_of 69 (Value.float FloatKind.f64 a); refine (Ia.out _).mono ?_; rintro e w1 ⟨rfl, rfl⟩) | (go_at_call_of 69 (Value.float FloatKind.f64 b); refine (Ib.out _).mono ?_; rintro e w1 ⟨rfl, rfl⟩) | (go_at_call_of 70 (Value.float FloatKind.f64 c); refine (Fc.out _).mono ?_; rintro e w1 ⟨rfl, rfl⟩) | (go_at_call_of 70 (Value.float FloatKind.f64 d); refine (Fd.out _).mono ?_; rintro e w1 ⟨rfl, rfl⟩))
                go_meet
                case rel => exact ⟨rfl, rfl⟩
            · go_wp2_with (first | (go_at_call_of 69 (Value.float FloatKind.f64 a); refine (Ia.out _).mono ?_; rintro e w1 ⟨rfl, rfl⟩) | (go_at_call_of 69 (Value.float FloatKind.f64 b); refine (Ib.out _).mono ?_; rintro e w1 ⟨rfl, rfl⟩) | (go_at_call_of 70 (Value.float FloatKind.f64 c); refine (Fc.out _).mono ?_; rintro e w1 ⟨rfl, rfl⟩) | (go_at_call_of 70 (Value.float FloatKind.f64 d); refine (Fd.out _).mono ?_; rintro e w1 ⟨rfl, rfl⟩))
              go_meet
              case rel => exact ⟨rfl, rfl⟩
        · cases ic
          · cases jd
            · go_wp2_with (first | (go_at_call_of 69 (Value.float FloatKind.f64 a); refine (Ia.out _).mono ?_; rintro e w1 ⟨rfl, rfl⟩) | (go_at_call_of 69 (Value.float FloatKind.f64 b); refine (Ib.out _).mono ?_; rintro e w1 ⟨rfl, rfl⟩) | (go_at_call_of 70 (Value.float FloatKind.f64 c); refine (Fc.out _).mono ?_; rintro e w1 ⟨rfl, rfl⟩) | (go_at_call_of 70 (Value.float FloatKind.f64 d); refine (Fd.out _).mono ?_; rintro e w1 ⟨rfl, rfl⟩))
              go_meet
              case rel => exact ⟨rfl, rfl⟩
            · go_wp2_with (first | (go_at_call_of 69 (Value.float FloatKind.f64 a); refine (Ia.out _).mono ?_; rintro e w1 ⟨rfl, rfl⟩) | (go_at_call_of 69 (Value.float FloatKind.f64 b); refine (Ib.out _).mono ?_; rintro e w1 ⟨rfl, rfl⟩) | (go_at_call_of 70 (Value.float FloatKind.f64 c); refine (Fc.out _).mono ?_; rintro e w1 ⟨rfl, rfl⟩) | (go_at_call_of 70 (Value.float FloatKind.f64 d); refine (Fd.out _).mono ?_; rintro e w1 ⟨rfl, rfl⟩))
              go_meet
              case rel => exact ⟨rfl, rfl⟩
          · go_wp2_with (first | (go_at_call_of 69 (Value.float FloatKind.f64 a); refine (Ia.out _).mono ?_; rintro e w1 ⟨rfl, rfl⟩) | (go_at_call_of 69 (Value.float FloatKind.f64 b); refine (Ib.out _).mono ?_; rintro e w1 ⟨rfl, rfl⟩) | (go_at_call_of 70 (Value.float FloatKind.f64 c); refine (Fc.out _).mono ?_; rintro e w1 ⟨rfl, rfl⟩) | (go_at_call_of 70 (Value.float FloatKind.f64 d); refine (Fd.out _).mono ?_; rintro e w1 ⟨rfl, rfl⟩))
            go_meet
            case rel => exact ⟨rfl, rfl⟩
      case rest =>
      obtain ⟨rfl, rfl⟩ := hcut
      obtain ⟨t1, ht1⟩ : ∃ t, t = ((ia || ib) && !ic && !jd) := ⟨_, rfl⟩
      rw [← ht1] at HQ ⊢
      clear ht1
      cases t1
      · go_upto_region 26 with fail
        go_cut [189] from 174 to 188 (fun v wx => v = .bool ((ic || jd) && !ia && !ib) ∧ wx = Y.drewN Q)
        case first =>
          clear HQ
          cases ic
          · cases jd
            · go_wp2_with (first | (go_at_call_of 69 (Value.float FloatKind.f64 c); refine (Ic.out _).mono ?_; rintro e w1 ⟨rfl, rfl⟩) | (go_at_call_of 69 (Value.float FloatKind.f64 d); refine (Id.out _).mono ?_; rintro e w1 ⟨rfl, rfl⟩) | (go_at_call_of 70 (Value.float FloatKind.f64 a); refine (Fa.out _).mono ?_; rintro e w1 ⟨rfl, rfl⟩) | (go_at_call_of 70 (Value.float FloatKind.f64 b); refine (Fb.out _).mono ?_; rintro e w1 ⟨rfl, rfl⟩))
              go_meet
              case rel => exact ⟨rfl, rfl⟩
            · cases ia
              · cases ib
                · go_wp2_with (first | (go_at_call_of 69 (Value.float FloatKind.f64 c); refine (Ic.out _).mono ?_; rintro e w1 ⟨rfl, rfl⟩) | (go_at_call_of 69 (Value.float FloatKind.f64 d); refine (Id.out _).mono ?_; rintro e w1 ⟨rfl, rfl⟩) | (go_at_call_of 70 (Value.float FloatKind.f64 a); refine (Fa.out _).mono ?_; rintro e w1 ⟨rfl, rfl⟩) | (go_at_call_of 70 (Value.float FloatKind.f64 b); refine (Fb.out _).mono ?_; rintro e w1 ⟨rfl, rfl⟩))
                  go_meet
                  case rel => exact ⟨rfl, rfl⟩
                · go_wp2_with (first | (go_at_call_of 69 (Value.float FloatKind.f64 c); refine (Ic.out _).mono ?_; rintro e w1 ⟨rfl, rfl⟩) | (go_at_call_of 69 (Value.float FloatKind.f64 d); refine (Id.out _).mono ?_; rintro e w1 ⟨rfl, rfl⟩) | (go_at_call_of 70 (Value.float FloatKind.f64 a); refine (Fa.out _).mono ?_; rintro e w1 ⟨rfl, rfl⟩) | (go_at_call_of 70 (Value.float FloatKind.f64 b); refine (Fb.out _).mono ?_; rintro e w1 ⟨rfl, rfl⟩))
                  go_meet
                  case rel => exact ⟨rfl, rfl⟩
              · go_wp2_with (first | (go_at_call_of 69 (Value.float FloatKind.f64 c); refine (Ic.out _).mono ?_; rintro e w1 ⟨rfl, rfl⟩) | (go_at_call_of 69 (Value.float FloatKind.f64 d); refine (Id.out _).mono ?_; rintro e w1 ⟨rfl, rfl⟩) | (go_at_call_of 70 (Value.float FloatKind.f64 a); refine (Fa.out _).mono ?_; rintro e w1 ⟨rfl, rfl⟩) | (go_at_call_of 70 (Value.float FloatKind.f64 b); refine (Fb.out _).mono ?_; rintro e w1 ⟨rfl, rfl⟩))
                go_meet
                case rel => exact ⟨rfl, rfl⟩
          · cases ia
            · cases ib
              · go_wp2_with (first | (go_at_call_of 69 (Value.float FloatKind.f64 c); refine (Ic.out _).mono ?_; rintro e w1 ⟨rfl, rfl⟩) | (go_at_call_of 69 (Value.float FloatKind.f64 d); refine (Id.out _).mono ?_; rintro e w1 ⟨rfl, rfl⟩) | (go_at_call_of 70 (Value.float FloatKind.f64 a); refine (Fa.out _).mono ?_; rintro e w1 ⟨rfl, rfl⟩) | (go_at_call_of 70 (Value.float FloatKind.f64 b); refine (Fb.out _).mono ?_; rintro e w1 ⟨rfl, rfl⟩))
                go_meet
                case rel => exact ⟨rfl, rfl⟩
              · go_wp2_with (first | (go_at_call_of 69 (Value.float FloatKind.f64 c); refine (Ic.out _).mono ?_; rintro e w1 ⟨rfl, rfl⟩) | (go_at_call_of 69 (Value.float FloatKind.f64 d); refine (Id.out _).mono ?_; rintro e w1 ⟨rfl, rfl⟩) | (go_at_call_of 70 (Value.float FloatKind.f64 a); refine (Fa.out _).mono ?_; rintro e w1 ⟨rfl, rfl⟩) | (go_at_call_of 70 (Value.float FloatKind.f64 b); refine (Fb.out _).mono ?_; rintro e w1 ⟨rfl, rfl⟩))
                go_meet
                case rel => exact ⟨rfl, rfl⟩
            · go_wp2_with (first | (go_at_call_of 69 (Value.float FloatKind.f64 c); refine (Ic.out _).mono ?_; rintro e w1 ⟨rfl, rfl⟩) | (go_at_call_of 69 (Value.float FloatKind.f64 d); refine (Id.out _).mono ?_; rintro e w1 ⟨rfl, rfl⟩) | (go_at_call_of 70 (Value.float FloatKind.f64 a); refine (Fa.out _).mono ?_; rintro e w1 ⟨rfl, rfl⟩) | (go_at_call_of 70 (Value.float FloatKind.f64 b); refine (Fb.out _).mono ?_; rintro e w1 ⟨rfl, rfl⟩))
              go_meet
              case rel => exact ⟨rfl, rfl⟩
        case rest =>
        obtain ⟨rfl, rfl⟩ := hcut
        obtain ⟨t2, ht2⟩ : ∃ t, t = ((ic || jd) && !ia && !ib) := ⟨_, rfl⟩
        rw [← ht2] at HQ ⊢
        clear ht2
        cases t2
        · have HR : Hid (quoC a b c d = quoRaw a b c d) := HQ.out
          clear HQ
          go_wp2
          refine bodyPost_ret (v := Zv _ _) (by (simp [results, Try.results27, go_sem, y20, y21]); exact ⟨rfl, rfl⟩) rfl ⟨_, _, rfl, by rw [HR.out]; exact hxy, Own.out (Own.set (Own.set (Own.drewN HY.out.2 _) _ _) _ _) HY.out.1 (by omega)⟩
        · have HR : Hid (quoC a b c d = corC 0 a b (oneOf c) (oneOf d)) := HQ.out
          clear HQ
          go_wp2_with (first | (go_at_call_of 71 (Value.float FloatKind.f64 c); refine (Oc.out _).mono ?_; rintro e w1 ⟨rfl, rfl⟩) | (go_at_call_of 71 (Value.float FloatKind.f64 d); refine (Od.out _).mono ?_; rintro e w1 ⟨rfl, rfl⟩))
          refine bodyPost_ret (v := Zv _ _) (by (simp [results, Try.results27, go_sem, y20, y21, hc1]); exact ⟨rfl, rfl⟩) rfl ⟨_, _, rfl, ⟨opV_lt _ _ _ _, opV_lt _ _ _ _, ?_⟩, ?_⟩
          · obtain ⟨⟨ha, hb, hc, hd⟩, _⟩ := HH.out
            have o1 := oneOf_lt c
            have o2 := oneOf_lt d
            rw [HR.out]
            simp only [opV_cl, opV_lt, ha, hb, o1, o2, show (0 : Nat) < 18446744073709551616 by omega]
            rfl
          · refine Own.out (B := w.heap.size + 1 + 1) (X := X) (r := w.heap.size + 1 + 1) (n := 2) (t := 28) (Own.set (Own.set ?_ _ _) _ _) HY.out.1 (by omega)
            repeat (first | exact Own.drewN HY.out.2 _ | refine Own.opW ?_ _ _ _)
      · have HR : Hid (quoC a b c d = corC 9218868437227405312 (oneOf a) (oneOf b) c d) := HQ.out
        clear HQ
        go_wp2_with (first | (go_at_call_of 71 (Value.float FloatKind.f64 a); refine (Oa.out _).mono ?_; rintro e w1 ⟨rfl, rfl⟩) | (go_at_call_of 71 (Value.float FloatKind.f64 b); refine (Ob.out _).mono ?_; rintro e w1 ⟨rfl, rfl⟩))
        refine bodyPost_ret (v := Zv _ _) (by (simp [results, Try.results27, go_sem, y20, y21, hc1]); exact ⟨rfl, rfl⟩) rfl ⟨_, _, rfl, ⟨opV_lt _ _ _ _, opV_lt _ _ _ _, ?_⟩, ?_⟩
        · obtain ⟨⟨ha, hb, hc, hd⟩, _⟩ := HH.out
          have o1 := oneOf_lt a
          have o2 := oneOf_lt b
          rw [HR.out]
          simp only [opV_cl, opV_lt, hc, hd, o1, o2, show (9218868437227405312 : Nat) < 18446744073709551616 by omega]
          rfl
        · refine Own.out (B := w.heap.size + 1 + 1) (X := X) (r := w.heap.size + 1 + 1) (n := 2) (t := 28) (Own.set (Own.set ?_ _ _) _ _) HY.out.1 (by omega)
          repeat (first | exact Own.drewN HY.out.2 _ | refine Own.opW ?_ _ _ _)
    · have h2 : rg c = 0 ∧ rg d = 0 := of_decide_eq_true HZ.out.symm
      have HQ0 : quoC a b c d = (opC .mul (cl (infOf c)) (cl a), opC .mul (cl (infOf c)) (cl b)) := by unfold quoC; rw [if_neg HN.out, if_pos h2]
      have HQ : Hid (quoC a b c d = (opC .mul (cl (infOf c)) (cl a), opC .mul (cl (infOf c)) (cl b))) := HQ0
      have HS : Hid (Tells2 68 9218868437227405312 c (infOf c)) := sign_any (by omega) HH.out.1.2.2.1 HH.out.2.2.2.1
      have h0 := Own.drewN HY.out.2 Q
      clear HQ0 h2 HZ HN Nx Ny
      have k0_0 : ∀ W, Own (w.heap.size + 1 + 1) X (w.heap.size + 1 + 1) 2 28 W → W.cell? ⟨w.heap.size, 0, none⟩ = some (.float .f64 a) := fun _ h => (h.below.cell (by simp <;> omega)).trans ((HY.out.2.below.cell (by simp <;> omega)).symm.trans y00)
      have k0_1 : ∀ W, Own (w.heap.size + 1 + 1) X (w.heap.size + 1 + 1) 2 28 W → W.cell? ⟨w.heap.size, 1, none⟩ = some (.float .f64 b) := fun _ h => (h.below.cell (by simp <;> omega)).trans ((HY.out.2.below.cell (by simp <;> omega)).symm.trans y01)
      have k1_0 : ∀ W, Own (w.heap.size + 1 + 1) X (w.heap.size + 1 + 1) 2 28 W → W.cell? ⟨w.heap.size + 1, 0, none⟩ = some (.float .f64 c) := fun _ h => (h.below.cell (by simp <;> omega)).trans ((HY.out.2.below.cell (by simp <;> omega)).symm.trans y10)
      have k1_1 : ∀ W, Own (w.heap.size + 1 + 1) X (w.heap.size + 1 + 1) 2 28 W → W.cell? ⟨w.heap.size + 1, 1, none⟩ = some (.float .f64 d) := fun _ h => (h.below.cell (by simp <;> omega)).trans ((HY.out.2.below.cell (by simp <;> omega)).symm.trans y11)
      have g0 : ∀ W, Own (w.heap.size + 1 + 1) X (w.heap.size + 1 + 1) 2 28 W → W.cell? ⟨w.heap.size + 1 + 1, 0, none⟩ = some (got W (w.heap.size + 1 + 1) 0) := fun _ h => h.cell (by omega)
      have g1 : ∀ W, Own (w.heap.size + 1 + 1) X (w.heap.size + 1 + 1) 2 28 W → W.cell? ⟨w.heap.size + 1 + 1, 1, none⟩ = some (got W (w.heap.size + 1 + 1) 1) := fun _ h => h.cell (by omega)
      have gf : ∀ W j, Own (w.heap.size + 1 + 1) X (w.heap.size + 1 + 1) 2 28 W → W.frozen? ⟨w.heap.size + 1 + 1, j, none⟩ = false := fun _ j h => h.frozen j
      clear y00 y01 y10 y11 y20 y21 yf
      obtain ⟨V, hV⟩ : ∃ V, V = Y.drewN Q := ⟨_, rfl⟩
      rw [← hV] at h0
      go_wp2_with fail
      rw [← hV]
      clear hV
      go_region_held (fun W => Own (w.heap.size + 1 + 1) X (w.heap.size + 1 + 1) 2 28 W) (first | assumption | exact Own.drew ‹_› | exact Own.opW ‹_› _ _ _ | exact Own.set (Own.set ‹_› _ _) _ _)
        (first | (go_at_call 68; refine (HS.out _).mono ?_; rintro e w1 ⟨rfl, rfl⟩))
      all_goals
        have e0 := g0 _ h0
        have e1 := g1 _ h0
        clear k0_0 k0_1 k1_0 k1_1 g0 g1 gf
        go_wp2
        refine bodyPost_ret (v := Zv _ _) (by (simp [results, Try.results27, go_sem, e0, e1, hc1]); exact ⟨rfl, rfl⟩) rfl ⟨_, _, rfl, ⟨opV_lt _ _ _ _, opV_lt _ _ _ _, ?_⟩, Own.out (by assumption) HY.out.1 (by omega)⟩
        rw [HQ.out, opV_cl _ (infOf_lt c) HH.out.1.1, opV_cl _ (infOf_lt c) HH.out.1.2.1]
theorem sDiv_any {a b c d : Nat} {p q : Option Nat × Option Nat} (h : Zc a b p) (k : Zc c d q) (w : World) : ZV 27 #[Zv a b, Zv c d] w (divK p q) := by
  obtain ⟨ha, hb, e1⟩ := h
  obtain ⟨hc, hd, e2⟩ := k
  subst e1
  subst e2
  by_cases na : Num a
  · by_cases nb : Num b
    · by_cases nc : Num c
      · by_cases nd : Num d
        · rw [divK_num na nb nc nd]; exact sDiv_num ha hb hc hd na nb nc nd w
        · rw [divK_nan (by simp [nd])]; exact sDiv_nan3 (nan_f ha na) (nan_f hb nb) (nan_f hc nc) (nan_t hd nd) w
      · rw [divK_nan (by simp [nc])]; exact sDiv_nan2 (nan_f ha na) (nan_f hb nb) (nan_t hc nc) w
    · rw [divK_nan (by simp [nb])]; exact sDiv_nan1 (nan_f ha na) (nan_t hb nb) w
  · rw [divK_nan (by simp [na])]; exact sDiv_nan0 (nan_t ha na) w
end Go.Proofs.Ytnmkbhallidgaaa
