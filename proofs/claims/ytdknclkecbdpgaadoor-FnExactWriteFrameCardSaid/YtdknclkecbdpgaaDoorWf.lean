/- Frames written, of both packages. -/
import Derived.Test.YtdknclkecbdpgaaDoorRh
import Derived.Test.YtdknclkecbdpgaaDoorHf
namespace Go.Proofs.YtdknclkecbdpgaaDoor
open Go.RowKit
set_option linter.unusedVariables false
set_option linter.unusedSimpArgs false
set_option maxHeartbeats 1600000 in
theorem iPut_any {w : World} {base n : Nat} {v : Value} {xs : List Value} {m : Int} (hown : w.ownsRow base 5 1 v n xs) (hn : n ≤ 1000000) (hb : base ≤ w.heap.size) (m0 : 0 ≤ m) (m1 : m < 65536) :
    Calls Tryd.prog 94 #[v, .int .i64 m] w fun e w' => ∃ v', e = .returned v' ∧ w'.ownsRow base 5 1 v' (n + 2) (xs ++ [.int .u8 (m / 256), .int .u8 (m % 256)]) ∧ Below base w w' := by
  have HO : Hid (w.ownsRow base 5 1 v n xs) := hown
  have t1 : m.tdiv 256 = m / 256 := Int.tdiv_eq_ediv_of_nonneg m0
  have t2 : m.tmod 256 = m % 256 := Int.tmod_eq_emod_of_nonneg m0
  clear hown
  go_enter Tryd.func94, Tryd.ntmps94
  go_wp2_with (first | (at_builtin; refine push2_law rfl (.tmp 5) (.tmp 11) 22 rfl 5 (.int .u8 0) 1 1 Tryd.underlying22 info5 rfl (by decide) (by decide) _ [.int .u8 (m / 256), .int .u8 (m % 256)] rfl (by intro u hu; simp at hu; rcases hu with rfl | rfl <;> rfl) base v n _ rfl HO.out 2 rfl (by omega) hb ?_; intro v1 w3 own3 grow3 nn3; have H3 : Hid (w3.ownsRow base 5 1 v1 (n + 2) (xs ++ [.int .u8 (m / 256), .int .u8 (m % 256)]) ∧ Below base w w3) := ⟨own3, push_below HO.out grow3 (Below.refl _ _) hb⟩; clear own3 grow3 nn3))
  go_wp2
  go_ret
  exact ⟨_, rfl, H3.out.1, H3.out.2⟩
set_option maxHeartbeats 1600000 in
theorem sPut_any {w : World} {base n : Nat} {v : Value} {xs : List Value} {m : Int} (hown : w.ownsRow base 5 1 v n xs) (hn : n ≤ 1000000) (hb : base ≤ w.heap.size) (m0 : 0 ≤ m) (m1 : m < 65536) :
    Calls Tryd.prog 92 #[v, .int .i64 m] w fun e w' => ∃ v', e = .returned v' ∧ w'.ownsRow base 5 1 v' (n + 2) (xs ++ [.int .u8 (m / 256), .int .u8 (m % 256)]) ∧ Below base w w' := by
  have HO : Hid (w.ownsRow base 5 1 v n xs) := hown
  have t1 : m.tdiv 256 = m / 256 := Int.tdiv_eq_ediv_of_nonneg m0
  have t2 : m.tmod 256 = m % 256 := Int.tmod_eq_emod_of_nonneg m0
  clear hown
  go_enter Tryd.func92, Tryd.ntmps92
  go_wp2_with (first | (at_builtin; refine push2_law rfl (.tmp 5) (.tmp 12) 22 rfl 5 (.int .u8 0) 1 1 Tryd.underlying22 info5 rfl (by decide) (by decide) _ [.int .u8 (m / 256), .int .u8 (m % 256)] rfl (by intro u hu; simp at hu; rcases hu with rfl | rfl <;> rfl) base v n _ rfl HO.out 2 rfl (by omega) hb ?_; intro v1 w3 own3 grow3 nn3; have H3 : Hid (w3.ownsRow base 5 1 v1 (n + 2) (xs ++ [.int .u8 (m / 256), .int .u8 (m % 256)]) ∧ Below base w w3) := ⟨own3, push_below HO.out grow3 (Below.refl _ _) hb⟩; clear own3 grow3 nn3))
  go_wp2
  go_ret
  exact ⟨_, rfl, H3.out.1, H3.out.2⟩
/-- A frame's bytes, ahead of its sum; its sum; all of them. -/
def wh (kd : Int) (l : Nat) (G : Nat → Int) (i : Nat) : Int := if i = 0 then 90 else if i = 1 then 165 else if i = 2 then kd else if i = 3 then (l : Int) / 256 else if i = 4 then (l : Int) % 256 else G (i - 5)
def wS (kd : Int) (l : Nat) (G : Nat → Int) : Int := cs (fun i => wh kd l G (2 + i)) (3 + l)
def wfr (kd : Int) (l : Nat) (G : Nat → Int) (i : Nat) : Int := if i < 5 + l then wh kd l G i else if i = 5 + l then wS kd l G / 256 else wS kd l G % 256
theorem wh_by {kd : Int} {l : Nat} {G : Nat → Int} (k0 : 0 ≤ kd) (k1 : kd ≤ 255) (hl : l ≤ 1000) (hG : By l G) : By (5 + l) (wh kd l G) := by
  intro i hi
  unfold wh
  by_cases h0 : i = 0
  · rw [if_pos h0]; omega
  by_cases h1 : i = 1
  · rw [if_neg h0, if_pos h1]; omega
  by_cases h2 : i = 2
  · rw [if_neg h0, if_neg h1, if_pos h2]; omega
  by_cases h3 : i = 3
  · rw [if_neg h0, if_neg h1, if_neg h2, if_pos h3]; omega
  by_cases h4 : i = 4
  · rw [if_neg h0, if_neg h1, if_neg h2, if_neg h3, if_pos h4]; omega
  rw [if_neg h0, if_neg h1, if_neg h2, if_neg h3, if_neg h4]
  exact hG (i - 5) (by omega)
theorem wS_bd {kd : Int} {l : Nat} {G : Nat → Int} (k0 : 0 ≤ kd) (k1 : kd ≤ 255) (hl : l ≤ 1000) (hG : By l G) : 0 ≤ wS kd l G ∧ wS kd l G < 65536 :=
  cs_bd (n := 3 + l) ((wh_by k0 k1 hl hG).from_ 2 (by omega)) (3 + l) (Nat.le_refl _)
theorem wfr_lo {kd : Int} {l : Nat} {G : Nat → Int} {i : Nat} (h : i < 5 + l) : wfr kd l G i = wh kd l G i := by unfold wfr; rw [if_pos h]
theorem wl2 (kd : Int) (l : Nat) (G : Nat → Int) : vl (cF (wfr kd l G)) 2 = [.int .u8 90, .int .u8 165] := by
  show [Value.int .u8 (wfr kd l G 0), Value.int .u8 (wfr kd l G 1)] = _
  rw [wfr_lo (by omega), wfr_lo (by omega)]
  rfl
theorem wl3 (kd : Int) (l : Nat) (G : Nat → Int) : vl (cF (wfr kd l G)) 2 ++ [.int .u8 kd] = vl (cF (wfr kd l G)) 3 := by
  rw [← vl_push (cF (wfr kd l G)) 2]
  show _ = _ ++ [Value.int .u8 (wfr kd l G 2)]
  rw [wfr_lo (by omega)]
  rfl
theorem wl5 (kd : Int) (l : Nat) (G : Nat → Int) : vl (cF (wfr kd l G)) 3 ++ [.int .u8 ((l : Int) / 256), .int .u8 ((l : Int) % 256)] = vl (cF (wfr kd l G)) 5 := by
  rw [← vl_two (cF (wfr kd l G)) 3]
  show _ = _ ++ [Value.int .u8 (wfr kd l G 3), Value.int .u8 (wfr kd l G 4)]
  rw [wfr_lo (by omega), wfr_lo (by omega)]
  rfl
theorem wlp (kd : Int) (l : Nat) (G : Nat → Int) : vl (cF (wfr kd l G)) 5 ++ vl (cF G) l = vl (cF (wfr kd l G)) (5 + l) := by
  rw [← vl_app (cF (wfr kd l G)) 5 l]
  congr 1
  refine vl_congr fun i hi => ?_
  show Value.int .u8 (G i) = Value.int .u8 (wfr kd l G (5 + i))
  rw [wfr_lo (by omega)]
  unfold wh
  rw [if_neg (by omega), if_neg (by omega), if_neg (by omega), if_neg (by omega), if_neg (by omega), show 5 + i - 5 = i by omega]
theorem wl7 (kd : Int) (l : Nat) (G : Nat → Int) : vl (cF (wfr kd l G)) (5 + l) ++ [.int .u8 (wS kd l G / 256), .int .u8 (wS kd l G % 256)] = vl (cF (wfr kd l G)) (5 + l + 2) := by
  rw [← vl_two (cF (wfr kd l G)) (5 + l)]
  show _ = _ ++ [Value.int .u8 (wfr kd l G (5 + l)), Value.int .u8 (wfr kd l G (5 + l + 1))]
  have e1 : wfr kd l G (5 + l) = wS kd l G / 256 := by unfold wfr; rw [if_neg (by omega), if_pos rfl]
  have e2 : wfr kd l G (5 + l + 1) = wS kd l G % 256 := by unfold wfr; rw [if_neg (by omega), if_neg (by omega)]
  rw [e1, e2]
/-- On the way: the boxes of the frame and of the answer, and the list. -/
structure Wt (w W : World) (B : Nat) (v : Value) (n : Nat) (F : Nat → Value) (kd : Int) (pv : Value) : Prop where
  own : W.ownsRow B 5 1 v n (vl F n)
  fbox : Blk W w.heap.size #[.int .i64 kd, pv] 49
  rbox : Blk W (w.heap.size + 1) #[.int .i64 0, .slice none 0 0] 47
  below : Below w.heap.size w W
  lb : w.heap.size + 2 ≤ B
  lt : B ≤ W.heap.size
theorem Wt.grow {w W w3 : World} {B n m : Nat} {v v1 : Value} {F : Nat → Value} {kd : Int} {pv : Value} (h : Wt w W B v n F kd pv) (b : Below B W w3) (o : w3.ownsRow B 5 1 v1 m (vl F m)) : Wt w w3 B v1 m F kd pv :=
  ⟨o, (b.block _ (by have := h.lb; omega)).trans h.fbox, (b.block _ (by have := h.lb; omega)).trans h.rbox, h.below.trans (b.mono (by have := h.lb; omega)), h.lb, Nat.le_trans h.lt b.size⟩
def wcode (kd : Int) (l : Nat) : Int := if 100000 < l then 2 else if kd < 0 ∨ 255 < kd ∨ 1000 < l then 1 else 0
set_option maxRecDepth 20000 in
set_option maxHeartbeats 3200000 in
theorem iFF_any (kd : Int) (ao : Option Addr) (l cap : Nat) (hm : l ≤ 1000000000000) (w : World) : Calls Tryd.prog 93 #[.agg #[.int .i64 kd, .slice ao l cap]] w fun e w' => e = .returned (er (wcode kd l)) ∧ Below w.heap.size w w' := by
  by_cases hn : 100000 < l
  · have hc : Hid (wcode kd l = 2) := by show _ = _; unfold wcode; rw [if_pos hn]
    go_enter Tryd.func93, Tryd.ntmps93
    go_wp2_with fail
    refine Calls.mono (bytesFault_any _ _ _ hm _) ?_
    rintro e w0 ⟨rfl, hw0⟩
    rw [mb_many hn, er_c (by decide)]
    have hB : Hid (Below w.heap.size w w0) := by rw [hw0]; exact (Below.refl _ _).alloc (Nat.le_refl _) _
    have c0 : w0.cell? ⟨w.heap.size, 0, none⟩ = some (.int .i64 kd) := by rw [hw0]; exact (Blk.new rfl).cell (j := 0) rfl
    have c1 : w0.cell? ⟨w.heap.size, 1, none⟩ = some (.slice ao l cap) := by rw [hw0]; exact (Blk.new rfl).cell (j := 1) rfl
    clear hw0
    go_wp2
    go_ret
    exact ⟨by rw [hc.out, er_c (by decide)]; rfl, hB.out⟩
  have hn2 : l ≤ 100000 := by omega
  by_cases h1 : kd < 0
  · have hc : Hid (wcode kd l = 1) := by show _ = _; unfold wcode; rw [if_neg hn, if_pos (Or.inl h1)]
    go_enter Tryd.func93, Tryd.ntmps93
    go_wp2_with fail
    refine Calls.mono (bytesFault_any _ _ _ hm _) ?_
    rintro e w0 ⟨rfl, hw0⟩
    rw [mb_ok hn2, er_0]
    have hB : Hid (Below w.heap.size w w0) := by rw [hw0]; exact (Below.refl _ _).alloc (Nat.le_refl _) _
    have c0 : w0.cell? ⟨w.heap.size, 0, none⟩ = some (.int .i64 kd) := by rw [hw0]; exact (Blk.new rfl).cell (j := 0) rfl
    have c1 : w0.cell? ⟨w.heap.size, 1, none⟩ = some (.slice ao l cap) := by rw [hw0]; exact (Blk.new rfl).cell (j := 1) rfl
    clear hw0
    go_wp2
    go_ret
    exact ⟨by rw [hc.out, er_c (by decide)]; rfl, hB.out⟩
  by_cases h2 : 255 < kd
  · have hc : Hid (wcode kd l = 1) := by show _ = _; unfold wcode; rw [if_neg hn, if_pos (Or.inr (Or.inl h2))]
    go_enter Tryd.func93, Tryd.ntmps93
    go_wp2_with fail
    refine Calls.mono (bytesFault_any _ _ _ hm _) ?_
    rintro e w0 ⟨rfl, hw0⟩
    rw [mb_ok hn2, er_0]
    have hB : Hid (Below w.heap.size w w0) := by rw [hw0]; exact (Below.refl _ _).alloc (Nat.le_refl _) _
    have c0 : w0.cell? ⟨w.heap.size, 0, none⟩ = some (.int .i64 kd) := by rw [hw0]; exact (Blk.new rfl).cell (j := 0) rfl
    have c1 : w0.cell? ⟨w.heap.size, 1, none⟩ = some (.slice ao l cap) := by rw [hw0]; exact (Blk.new rfl).cell (j := 1) rfl
    clear hw0
    go_wp2
    go_ret
    exact ⟨by rw [hc.out, er_c (by decide)]; rfl, hB.out⟩
  by_cases h3 : (1000 : Int) < l
  · have hc : Hid (wcode kd l = 1) := by show _ = _; unfold wcode; rw [if_neg hn, if_pos (Or.inr (Or.inr (by omega)))]
    go_enter Tryd.func93, Tryd.ntmps93
    go_wp2_with fail
    refine Calls.mono (bytesFault_any _ _ _ hm _) ?_
    rintro e w0 ⟨rfl, hw0⟩
    rw [mb_ok hn2, er_0]
    have hB : Hid (Below w.heap.size w w0) := by rw [hw0]; exact (Below.refl _ _).alloc (Nat.le_refl _) _
    have c0 : w0.cell? ⟨w.heap.size, 0, none⟩ = some (.int .i64 kd) := by rw [hw0]; exact (Blk.new rfl).cell (j := 0) rfl
    have c1 : w0.cell? ⟨w.heap.size, 1, none⟩ = some (.slice ao l cap) := by rw [hw0]; exact (Blk.new rfl).cell (j := 1) rfl
    clear hw0
    go_wp2
    go_ret
    exact ⟨by rw [hc.out, er_c (by decide)]; rfl, hB.out⟩
  · have hc : Hid (wcode kd l = 0) := by show _ = _; unfold wcode; rw [if_neg hn, if_neg (by omega)]
    go_enter Tryd.func93, Tryd.ntmps93
    go_wp2_with fail
    refine Calls.mono (bytesFault_any _ _ _ hm _) ?_
    rintro e w0 ⟨rfl, hw0⟩
    rw [mb_ok hn2, er_0]
    have hB : Hid (Below w.heap.size w w0) := by rw [hw0]; exact (Below.refl _ _).alloc (Nat.le_refl _) _
    have c0 : w0.cell? ⟨w.heap.size, 0, none⟩ = some (.int .i64 kd) := by rw [hw0]; exact (Blk.new rfl).cell (j := 0) rfl
    have c1 : w0.cell? ⟨w.heap.size, 1, none⟩ = some (.slice ao l cap) := by rw [hw0]; exact (Blk.new rfl).cell (j := 1) rfl
    clear hw0
    go_wp2
    go_ret
    exact ⟨by rw [hc.out, er_0]; rfl, hB.out⟩
end Go.Proofs.YtdknclkecbdpgaaDoor
