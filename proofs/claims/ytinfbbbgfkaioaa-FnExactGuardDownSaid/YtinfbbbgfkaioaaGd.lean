/- Ids in guards, paths with a fibre in common, in both packages: contracts. -/
import Derived.Test.YtinfbbbgfkaioaaGc
import Derived.Test.YtinfbbbgfkaioaaRo
import Derived.Test.YtinfbbbgfkaioaaLc
namespace Go.Proofs.Ytinfbbbgfkaioaa
open Go.RowKit
set_option linter.unusedVariables false
set_option linter.unusedSimpArgs false
/-- A list of guards that is read. -/
abbrev Rg (w : World) (v : Value) (n : Nat) (G : Nat → Gu) : Prop := RdV w v n 2 (fun i j => gcell (G i) j)
def gone (g : Gu) (id : Int) : Bool := g.wk == id || g.sp == id
/-- Whether an Id is in one of so many guards. -/
def gin (G : Nat → Gu) (id : Int) (k : Nat) : Bool := Nt.any (fun i => gone (G i) id) k
/-- Whether two paths have a fibre in common. -/
def com (p : Nat → Int) (m : Nat) (q : Nat → Int) (n : Nat) : Bool := Nt.any (fun i => Nt.has q n (p i)) m
set_option maxRecDepth 20000 in
set_option maxHeartbeats 1600000 in
theorem sIn_any {w : World} {ao : Option Addr} {n cap : Nat} {G : Nat → Gu} (id : Int) (h : Rg w (.slice ao n cap) n G) (hn : n ≤ 1048576) :
    Calls Try.prog 83 #[.slice ao n cap, .int .i64 id] w fun e w' => e = .returned (.bool (gin G id n)) ∧ w' = w := by
  have hnI : (n : Int) ≤ 1048576 := by omega
  have H : Hid (Rg w (.slice ao n cap) n G) := h
  clear h
  go_enter Try.func83, Try.ntmps83
  go_wp2_with fail
  go_loopw [5] (fun i wr => wr = w ∧ ∃ k : Nat, k ≤ n ∧ i = .int .i64 k ∧ Hid (gin G id k = false)) (fun i _ => n - (intOf i).toNat)
  case atStart => exact ⟨rfl, 0, Nat.zero_le _, rfl, rfl⟩
  case round =>
    obtain ⟨rfl, k, hk, rfl, HF⟩ := hrel
    by_cases hkn : k < n
    · obtain ⟨b, off, rfl, hc⟩ := H.out.at hkn
      have g0 : wr.cell? ⟨b, off + k * 2, none⟩ = some (.int .i64 (G k).wk) := hc 0 (by omega)
      have g1 : wr.cell? ⟨b, off + k * 2 + 1, none⟩ = some (.int .i64 (G k).sp) := hc 1 (by omega)
      have hkI : (k : Int) < n := by omega
      clear hc
      cases q0 : ((G k).wk == id) with
      | true =>
        have HJ : Hid (gin G id n = true) := Nt.any_hit (q := fun i => gone (G i) id) hkn (by unfold gone; rw [q0]; rfl)
        go_wp2
        go_ret
        exact ⟨by rw [HJ.out]; rfl, rfl⟩
      | false =>
        cases q1 : ((G k).sp == id) with
        | true =>
          have HJ : Hid (gin G id n = true) := Nt.any_hit (q := fun i => gone (G i) id) hkn (by unfold gone; rw [q0, q1]; rfl)
          go_wp2
          go_ret
          exact ⟨by rw [HJ.out]; rfl, rfl⟩
        | false =>
          have HJ : Hid (gin G id (k + 1) = false) := Nt.any_next HF.out (by unfold gone; rw [q0, q1]; rfl)
          go_wp2
          go_roundw
          case rel => exact ⟨by trivial, k + 1, by omega, by simp, HJ⟩
          case measure => simp [intOf]; omega
    · obtain rfl : k = n := by omega
      go_wp2
      go_ret
      exact ⟨by rw [HF.out]; rfl, rfl⟩
set_option maxRecDepth 20000 in
set_option maxHeartbeats 1600000 in
theorem sApart_any {w : World} {ao bo : Option Addr} {m n ca cb : Nat} {p q : Nat → Int} (h : RdRow w (.slice ao m ca) m p) (h' : RdRow w (.slice bo n cb) n q) (hm : m ≤ 1048576) (hn : n ≤ 1048576) :
    Calls Try.prog 84 #[.slice ao m ca, .slice bo n cb] w fun e w' => e = .returned (.bool (!com p m q n)) ∧ w' = w := by
  have hmI : (m : Int) ≤ 1048576 := by omega
  have H : Hid (RdRow w (.slice ao m ca) m p ∧ RdRow w (.slice bo n cb) n q) := ⟨h, h'⟩
  clear h h'
  go_enter Try.func84, Try.ntmps84
  go_wp2_with fail
  go_loopw [5] (fun i wr => wr = w ∧ ∃ k : Nat, k ≤ m ∧ i = .int .i64 k ∧ Hid (com p k q n = false)) (fun i _ => m - (intOf i).toNat)
  case atStart => exact ⟨rfl, 0, Nat.zero_le _, rfl, rfl⟩
  case round =>
    obtain ⟨rfl, k, hk, rfl, HF⟩ := hrel
    by_cases hkn : k < m
    · obtain ⟨b, off, rfl, hc⟩ := H.out.1.at hkn
      have hkI : (k : Int) < m := by omega
      obtain ⟨v, hv⟩ : ∃ v, v = p k := ⟨_, rfl⟩
      rw [← hv] at hc
      have HV : Hid (v = p k) := hv
      clear hv
      cases q0 : Nt.has q n v with
      | true =>
        have HJ : Hid (com p m q n = true) := Nt.any_hit (q := fun i => Nt.has q n (p i)) hkn (by rw [← HV.out]; exact q0)
        go_wp2_with (first | (go_at_call 102; refine (sHas_any v H.out.2 (by omega)).mono ?_; rintro e w1 ⟨rfl, rfl⟩; rw [q0]))
        go_ret
        exact ⟨by rw [HJ.out]; rfl, rfl⟩
      | false =>
        have HJ : Hid (com p (k + 1) q n = false) := Nt.any_next HF.out (by rw [← HV.out]; exact q0)
        go_wp2_with (first | (go_at_call 102; refine (sHas_any v H.out.2 (by omega)).mono ?_; rintro e w1 ⟨rfl, rfl⟩; rw [q0]))
        go_roundw
        case rel => exact ⟨by trivial, k + 1, by omega, by simp, HJ⟩
        case measure => simp [intOf]; omega
    · obtain rfl : k = m := by omega
      go_wp2
      go_ret
      exact ⟨by rw [HF.out]; rfl, rfl⟩
set_option maxRecDepth 20000 in
set_option maxHeartbeats 1600000 in
theorem iHas_any (g : Gu) (id : Int) (w : World) : Calls Try.prog 56 #[.agg #[.int .i64 g.wk, .int .i64 g.sp], .int .i64 id] w fun e w' => e = .returned (.bool (gone g id)) ∧ Below w.heap.size w w' := by
  unfold gone
  cases q0 : (g.wk == id) with
  | true =>
    go_enter Try.func56, Try.ntmps56
    go_wp2
    go_ret
    exact ⟨rfl, by go_grown⟩
  | false =>
    cases q1 : (g.sp == id) with
    | true =>
      go_enter Try.func56, Try.ntmps56
      go_wp2
      go_ret
      exact ⟨rfl, by go_grown⟩
    | false =>
      go_enter Try.func56, Try.ntmps56
      go_wp2
      go_ret
      exact ⟨rfl, by go_grown⟩
set_option maxRecDepth 20000 in
set_option maxHeartbeats 1600000 in
theorem gcl_any (g : Gu) (id : Int) (q : Nat) (w : World) (h0 : w.cell? ⟨q, 0, none⟩ = some (.int .i64 id)) : Calls Try.prog 121 #[.agg #[.int .i64 g.wk, .int .i64 g.sp], .pointer (some ⟨q, 0, none⟩)] w fun e w' => e = .returned (.bool (gone g id)) ∧ Below w.heap.size w w' := by
  have hlt := World.block_lt_of_cell? _ _ h0
  go_enter Try.func121, Try.ntmps121
  go_wp2_with fail
  refine (iHas_any g id _).mono ?_
  rintro e w1 ⟨rfl, hb⟩
  have HB : Hid (Below w.heap.size w w1) := by refine box_step ?_ hb (by simp); go_grown
  clear hb h0
  go_wp2
  go_ret
  exact ⟨rfl, HB.out⟩
set_option maxRecDepth 20000 in
set_option maxHeartbeats 1600000 in
theorem gix_any {w : World} {ao : Option Addr} {n cap c : Nat} {G : Nat → Gu} (id : Int) (h : Rg w (.slice ao n cap) n G) (hn : n ≤ 1048576) (h0 : w.cell? ⟨c, 0, none⟩ = some (.int .i64 id)) :
    Calls Try.prog 51 #[.slice ao n cap, .func (.func 121) #[] #[.pointer (some ⟨c, 0, none⟩)]] w fun e w' => ∃ r : Int, e = .returned (.int .i64 r) ∧ decide (0 ≤ r) = Nt.any (fun k => gone (G k) id) n ∧ Below w.heap.size w w' := by
  have HR : ∀ W, Below w.heap.size w W → Hid (Rg W (.slice ao n cap) n G ∧ W.cell? ⟨c, 0, none⟩ = some (.int .i64 id)) := fun W hb => ⟨h.later hb, kold hb h0⟩
  clear h h0
  have hnI : (n : Int) ≤ 1048576 := by omega
  go_enter Try.func51, Try.ntmps51
  go_wp2_with fail
  go_loopw [8] (fun i wr => ∃ k : Nat, k ≤ n ∧ i = .int .i64 k ∧ Hid (Below w.heap.size w wr) ∧ Hid (Nt.any (fun k => gone (G k) id) k = false)) (fun i _ => n - (intOf i).toNat)
  case atStart => exact ⟨0, Nat.zero_le _, rfl, Below.refl _ _, rfl⟩
  case round =>
    obtain ⟨k, hk, rfl, HB, HF⟩ := hrel
    by_cases hkn : k < n
    · obtain ⟨b, off, rfl, hc⟩ := (HR wr HB.out).out.1.at hkn
      have g0 : wr.cell? ⟨b, off + k * 2, none⟩ = some (.int .i64 (G k).wk) := hc 0 (by omega)
      have g1 : wr.cell? ⟨b, off + k * 2 + 1, none⟩ = some (.int .i64 (G k).sp) := hc 1 (by omega)
      have HC : ∀ W, Below wr.heap.size wr W → Calls Try.prog 121 #[.agg #[.int .i64 (G k).wk, .int .i64 (G k).sp], .pointer (some ⟨c, 0, none⟩)] W fun e w' => e = .returned (.bool (gone (G k) id)) ∧ Below W.heap.size W w' := fun W hb => gcl_any (G k) id c W (kold hb (HR wr HB.out).out.2)
      clear hc HR
      cases hj : (fun k => gone (G k) id) k with
      | true =>
        have HJ : Hid (Nt.any (fun k => gone (G k) id) n = true) := Nt.any_hit hkn hj
        go_wp2_with (first | (go_at_call 121; refine (HC _ (Below.refl _ _)).mono ?_; rintro e w1 ⟨rfl, hb1⟩; rw [show gone (G k) id = true from hj]))
        go_ret
        exact ⟨_, rfl, by rw [HJ.out]; simp, HB.out.trans (hb1.mono HB.out.size)⟩
      | false =>
        have HJ : Hid (Nt.any (fun k => gone (G k) id) (k + 1) = false) := Nt.any_next HF.out hj
        go_wp2_with (first | (go_at_call 121; refine (HC _ (Below.refl _ _)).mono ?_; rintro e w1 ⟨rfl, hb1⟩; rw [show gone (G k) id = false from hj]))
        go_roundw
        case rel => exact ⟨k + 1, by omega, by simp, HB.out.trans (hb1.mono HB.out.size), HJ⟩
        case measure => simp [intOf]; omega
    · obtain rfl : k = n := by omega
      clear HR
      go_wp2
      go_ret
      exact ⟨_, rfl, by rw [HF.out]; simp, HB.out⟩
set_option maxRecDepth 20000 in
set_option maxHeartbeats 1600000 in
theorem gct_any {w : World} {ao : Option Addr} {n cap c : Nat} {G : Nat → Gu} (id : Int) (h : Rg w (.slice ao n cap) n G) (hn : n ≤ 1048576) (h0 : w.cell? ⟨c, 0, none⟩ = some (.int .i64 id)) :
    Calls Try.prog 120 #[.slice ao n cap, .func (.func 121) #[] #[.pointer (some ⟨c, 0, none⟩)]] w fun e w' => e = .returned (.bool (Nt.any (fun k => gone (G k) id) n)) ∧ Below w.heap.size w w' := by
  have HH : Hid (Rg w (.slice ao n cap) n G ∧ w.cell? ⟨c, 0, none⟩ = some (.int .i64 id)) := ⟨h, h0⟩
  clear h h0
  go_enter Try.func120, Try.ntmps120
  go_wp2_with fail
  refine (gix_any id HH.out.1 hn HH.out.2).mono ?_
  rintro e w1 ⟨r, rfl, hr, hb⟩
  have HD : Hid (decide (0 ≤ r) = Nt.any (fun k => gone (G k) id) n) := hr
  have HB : Hid (Below w.heap.size w w1) := hb
  clear hb hr
  go_wp2
  go_ret
  exact ⟨by rw [← HD.out]; rfl, HB.out⟩
set_option maxRecDepth 20000 in
set_option maxHeartbeats 1600000 in
theorem iIn_any {w : World} {ao : Option Addr} {n cap : Nat} {G : Nat → Gu} (id : Int) (h : Rg w (.slice ao n cap) n G) (hn : n ≤ 1048576) :
    Calls Try.prog 112 #[.slice ao n cap, .int .i64 id] w fun e w' => e = .returned (.bool (gin G id n)) ∧ Below w.heap.size w w' := by
  have HH : ∀ W, Below w.heap.size w W → Hid (Rg W (.slice ao n cap) n G) := fun W hb => h.later hb
  clear h
  go_enter Try.func112, Try.ntmps112
  go_wp2_with fail
  refine (gct_any id (HH _ (by go_grown)).out hn (by go_simp)).mono ?_
  rintro e w1 ⟨rfl, hb⟩
  have HB : Hid (Below w.heap.size w w1) := by refine box_step ?_ hb (by simp); go_grown
  clear hb HH
  go_wp2
  go_ret
  exact ⟨rfl, HB.out⟩
set_option maxRecDepth 20000 in
set_option maxHeartbeats 1600000 in
theorem idx_any {w : World} {ao : Option Addr} {n cap : Nat} {p : Nat → Int} (v : Int) (h : RdRow w (.slice ao n cap) n p) (hn : n ≤ 1048576) :
    Calls Try.prog 131 #[.slice ao n cap, .int .i64 v] w fun e w' => ∃ r : Int, e = .returned (.int .i64 r) ∧ decide (0 ≤ r) = Nt.has p n v ∧ w' = w := by
  have hnI : (n : Int) ≤ 1048576 := by omega
  have H : Hid (RdRow w (.slice ao n cap) n p) := h
  clear h
  go_enter Try.func131, Try.ntmps131
  go_wp2_with fail
  go_loopw [8] (fun i wr => wr = w ∧ ∃ k : Nat, k ≤ n ∧ i = .int .i64 k ∧ Hid (Nt.has p k v = false)) (fun i _ => n - (intOf i).toNat)
  case atStart => exact ⟨rfl, 0, Nat.zero_le _, rfl, rfl⟩
  case round =>
    obtain ⟨rfl, k, hk, rfl, HF⟩ := hrel
    by_cases hkn : k < n
    · obtain ⟨b, off, rfl, hc⟩ := H.out.at hkn
      have hkI : (k : Int) < n := by omega
      cases hq : (v == p k) with
      | true =>
        have HJ : Hid (Nt.has p n v = true) := Nt.any_hit (q := fun k => p k == v) hkn (by rw [← hq]; exact BEq.comm)
        go_wp2
        go_ret
        exact ⟨_, rfl, by rw [HJ.out]; simp, rfl⟩
      | false =>
        have HJ : Hid (Nt.has p (k + 1) v = false) := Nt.any_next (q := fun k => p k == v) HF.out (by rw [← hq]; exact BEq.comm)
        go_wp2
        go_roundw
        case rel => exact ⟨by trivial, k + 1, by omega, by simp, HJ⟩
        case measure => simp [intOf]; omega
    · obtain rfl : k = n := by omega
      go_wp2
      go_ret
      exact ⟨_, rfl, by rw [HF.out]; simp, rfl⟩
set_option maxRecDepth 20000 in
set_option maxHeartbeats 1600000 in
theorem cnt_any {w : World} {ao : Option Addr} {n cap : Nat} {p : Nat → Int} (v : Int) (h : RdRow w (.slice ao n cap) n p) (hn : n ≤ 1048576) :
    Calls Try.prog 124 #[.slice ao n cap, .int .i64 v] w fun e w' => e = .returned (.bool (Nt.has p n v)) ∧ w' = w := by
  have HH : Hid (RdRow w (.slice ao n cap) n p) := h
  clear h
  go_enter Try.func124, Try.ntmps124
  go_wp2_with fail
  refine (idx_any v HH.out hn).mono ?_
  rintro e w1 ⟨r, rfl, hr, rfl⟩
  have HD : Hid (decide (0 ≤ r) = Nt.has p n v) := hr
  clear hr
  go_wp2
  go_ret
  exact ⟨by rw [← HD.out]; rfl, rfl⟩
set_option maxRecDepth 20000 in
set_option maxHeartbeats 1600000 in
theorem ccl_any {w : World} {bo : Option Addr} {n cb q : Nat} {p : Nat → Int} (v : Int) (h : RdRow w (.slice bo n cb) n p) (hn : n ≤ 1048576) (h0 : w.cell? ⟨q, 0, none⟩ = some (.slice bo n cb)) : Calls Try.prog 123 #[.int .i64 v, .pointer (some ⟨q, 0, none⟩)] w fun e w' => e = .returned (.bool (Nt.has p n v)) ∧ Below w.heap.size w w' := by
  have hlt := World.block_lt_of_cell? _ _ h0
  have HH : Hid (RdRow w (.slice bo n cb) n p) := h
  clear h
  go_enter Try.func123, Try.ntmps123
  go_wp2_with fail
  refine (cnt_any v HH.out hn).mono ?_
  rintro e w1 ⟨rfl, rfl⟩
  clear h0
  go_wp2
  go_ret
  exact ⟨rfl, Below.refl _ _⟩
set_option maxRecDepth 20000 in
set_option maxHeartbeats 1600000 in
theorem cix_any {w : World} {ao bo : Option Addr} {n cap m cb c : Nat} {p q : Nat → Int} (h : RdRow w (.slice ao n cap) n p) (h1 : RdRow w (.slice bo m cb) m q) (hn : n ≤ 1048576) (hm : m ≤ 1048576) (h0 : w.cell? ⟨c, 0, none⟩ = some (.slice bo m cb)) :
    Calls Try.prog 130 #[.slice ao n cap, .func (.func 123) #[] #[.pointer (some ⟨c, 0, none⟩)]] w fun e w' => ∃ r : Int, e = .returned (.int .i64 r) ∧ decide (0 ≤ r) = Nt.any (fun k => Nt.has q m (p k)) n ∧ Below w.heap.size w w' := by
  have HR : ∀ W, Below w.heap.size w W → Hid (RdRow W (.slice ao n cap) n p ∧ RdRow W (.slice bo m cb) m q ∧ W.cell? ⟨c, 0, none⟩ = some (.slice bo m cb)) := fun W hb => ⟨h.later hb, h1.later hb, kold hb h0⟩
  clear h h0 h1
  have hnI : (n : Int) ≤ 1048576 := by omega
  go_enter Try.func130, Try.ntmps130
  go_wp2_with fail
  go_loopw [8] (fun i wr => ∃ k : Nat, k ≤ n ∧ i = .int .i64 k ∧ Hid (Below w.heap.size w wr) ∧ Hid (Nt.any (fun k => Nt.has q m (p k)) k = false)) (fun i _ => n - (intOf i).toNat)
  case atStart => exact ⟨0, Nat.zero_le _, rfl, Below.refl _ _, rfl⟩
  case round =>
    obtain ⟨k, hk, rfl, HB, HF⟩ := hrel
    by_cases hkn : k < n
    · obtain ⟨b, off, rfl, hc⟩ := (HR wr HB.out).out.1.at hkn
      obtain ⟨v, hv⟩ : ∃ v, v = p k := ⟨_, rfl⟩
      rw [← hv] at hc
      have HV : Hid (v = p k) := hv
      have HC : ∀ W, Below wr.heap.size wr W → Calls Try.prog 123 #[.int .i64 v, .pointer (some ⟨c, 0, none⟩)] W fun e w' => e = .returned (.bool (Nt.has q m (p k))) ∧ Below W.heap.size W w' := fun W hb => by rw [← hv]; exact ccl_any v ((HR wr HB.out).out.2.1.later hb) hm (kold hb (HR wr HB.out).out.2.2)
      clear hv HR
      cases hj : (fun k => Nt.has q m (p k)) k with
      | true =>
        have HJ : Hid (Nt.any (fun k => Nt.has q m (p k)) n = true) := Nt.any_hit hkn hj
        go_wp2_with (first | (go_at_call 123; refine (HC _ (Below.refl _ _)).mono ?_; rintro e w1 ⟨rfl, hb1⟩; rw [show Nt.has q m (p k) = true from hj]))
        go_ret
        exact ⟨_, rfl, by rw [HJ.out]; simp, HB.out.trans (hb1.mono HB.out.size)⟩
      | false =>
        have HJ : Hid (Nt.any (fun k => Nt.has q m (p k)) (k + 1) = false) := Nt.any_next HF.out hj
        go_wp2_with (first | (go_at_call 123; refine (HC _ (Below.refl _ _)).mono ?_; rintro e w1 ⟨rfl, hb1⟩; rw [show Nt.has q m (p k) = false from hj]))
        go_roundw
        case rel => exact ⟨k + 1, by omega, by simp, HB.out.trans (hb1.mono HB.out.size), HJ⟩
        case measure => simp [intOf]; omega
    · obtain rfl : k = n := by omega
      clear HR
      go_wp2
      go_ret
      exact ⟨_, rfl, by rw [HF.out]; simp, HB.out⟩
set_option maxRecDepth 20000 in
set_option maxHeartbeats 1600000 in
theorem cct_any {w : World} {ao bo : Option Addr} {n cap m cb c : Nat} {p q : Nat → Int} (h : RdRow w (.slice ao n cap) n p) (h1 : RdRow w (.slice bo m cb) m q) (hn : n ≤ 1048576) (hm : m ≤ 1048576) (h0 : w.cell? ⟨c, 0, none⟩ = some (.slice bo m cb)) :
    Calls Try.prog 122 #[.slice ao n cap, .func (.func 123) #[] #[.pointer (some ⟨c, 0, none⟩)]] w fun e w' => e = .returned (.bool (Nt.any (fun k => Nt.has q m (p k)) n)) ∧ Below w.heap.size w w' := by
  have HH : Hid (RdRow w (.slice ao n cap) n p ∧ RdRow w (.slice bo m cb) m q ∧ w.cell? ⟨c, 0, none⟩ = some (.slice bo m cb)) := ⟨h, h1, h0⟩
  clear h h1 h0
  go_enter Try.func122, Try.ntmps122
  go_wp2_with fail
  refine (cix_any HH.out.1 HH.out.2.1 hn hm HH.out.2.2).mono ?_
  rintro e w1 ⟨r, rfl, hr, hb⟩
  have HD : Hid (decide (0 ≤ r) = Nt.any (fun k => Nt.has q m (p k)) n) := hr
  have HB : Hid (Below w.heap.size w w1) := hb
  clear hb hr
  go_wp2
  go_ret
  exact ⟨by rw [← HD.out]; rfl, HB.out⟩
set_option maxRecDepth 20000 in
set_option maxHeartbeats 1600000 in
theorem iCom_any {w : World} {ao bo : Option Addr} {n cap m cb : Nat} {p q : Nat → Int} (h : RdRow w (.slice ao n cap) n p) (h1 : RdRow w (.slice bo m cb) m q) (hn : n ≤ 1048576) (hm : m ≤ 1048576) :
    Calls Try.prog 113 #[.slice ao n cap, .slice bo m cb] w fun e w' => e = .returned (.bool (com p n q m)) ∧ Below w.heap.size w w' := by
  have HH : ∀ W, Below w.heap.size w W → Hid (RdRow W (.slice ao n cap) n p ∧ RdRow W (.slice bo m cb) m q) := fun W hb => ⟨h.later hb, h1.later hb⟩
  clear h h1
  go_enter Try.func113, Try.ntmps113
  go_wp2_with fail
  refine (cct_any (HH _ (by go_grown)).out.1 (HH _ (by go_grown)).out.2 hn hm (by go_simp)).mono ?_
  rintro e w1 ⟨rfl, hb⟩
  have HB : Hid (Below w.heap.size w w1) := by refine box_step ?_ hb (by simp); go_grown
  clear hb HH
  go_wp2
  go_ret
  exact ⟨rfl, HB.out⟩
end Go.Proofs.Ytinfbbbgfkaioaa
