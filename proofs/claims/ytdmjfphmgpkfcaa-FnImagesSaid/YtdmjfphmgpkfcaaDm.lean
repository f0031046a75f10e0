/- The drawing of a system out of bytes: contracts. -/
import Derived.Test.YtdmjfphmgpkfcaaDl
import Derived.Test.YtdmjfphmgpkfcaaMo
import Derived.Test.YtdmjfphmgpkfcaaTb
import Derived.Handy
namespace Go.Proofs.Ytdmjfphmgpkfcaa
open Go.RowKit
set_option linter.unusedVariables false
set_option linter.unusedSimpArgs false
theorem Src.drew {w0 w : World} {v : Value} {a : Int} {p : Nat} (h : Src w0 w v a p) : Src w0 w.drew v a p := ⟨h.below.drew, h.new, h.code, h.here, h.free⟩
theorem Bu.drew {p : Nat} {w w' : World} (h : Bu p w w') : Bu p w w'.drew := ⟨h.size, h.blk⟩
abbrev Mv (m : Mx) : Value := .agg #[.int .i64 m.A.n, .int .i64 m.A.d, .int .i64 m.B.n, .int .i64 m.B.d, .int .i64 m.C.n, .int .i64 m.C.d, .int .i64 m.D.n, .int .i64 m.D.d]
/-- A drawn system: at most K bytes are drawn. -/
def Dx (fn : FuncId) (K : Int) : Prop := ∀ (w0 w : World) (v : Value) (a : Int) (p : Nat), Src w0 w v a p → Nexts w0 v p → 0 ≤ a → a + K ≤ 900 →
  Calls Try.prog fn #[.pointer (some ⟨p, 0, none⟩)] w fun e w' => ∃ (m : Mx) (a' : Int), e = .returned (Mv m) ∧ (a ≤ a' ∧ a' ≤ a + K) ∧ Src w0 w' v a' p ∧ Bu p w w'
set_option maxRecDepth 20000 in
set_option maxHeartbeats 6400000 in
theorem matrix_any : Dx 33 60 := by
  intro w0 w v a p hS NX h0 hK
  have HA : Hid (0 ≤ a ∧ a + 60 ≤ 900) := ⟨h0, hK⟩
  have HN : Hid (Nexts w0 v p) := NX
  have hpw : Hid (p < w.heap.size) := hS.lt
  have HL : Hid (w0.heap.size ≤ w.heap.size) := hS.below.size
  have hnr : Hid (w.heap.size ≠ p) := by show _ ≠ _; have := hpw.out; omega
  clear h0 hK NX
  go_enter Try.func33, Try.ntmps33
  go_upto_region 1 with fail
  obtain ⟨v1, hv⟩ : ∃ X, X = w.alloc (.cells #[.int .i64 0, .int .i64 0, .int .i64 0, .int .i64 0, .int .i64 0, .int .i64 0, .int .i64 0, .int .i64 0] 27) := ⟨_, rfl⟩
  rw [← hv]
  have HS : Hid (Src w0 v1 v a p) := by rw [hv]; exact hS.alloc _
  have HB : Hid (Bu p w v1) := by rw [hv]; exact (Bu.refl _ _).alloc _
  have B_r : Hid (Blk v1 w.heap.size #[.int .i64 0, .int .i64 0, .int .i64 0, .int .i64 0, .int .i64 0, .int .i64 0, .int .i64 0, .int .i64 0] 27) := by show Blk _ _ _ _; rw [hv]; exact Blk.new rfl
  clear hv hS
  go_wp2_with fail
  refine (chance_any HS.out HN.out (by have := HA.out; omega) (by have := HA.out; omega) 4 (by omega) (by omega)).mono ?_
  rintro e v2 ⟨b, rfl, hs, hb⟩
  replace HS : Hid (Src w0 v2 v (a + 1) p) := hs
  replace B_r : Hid (Blk v2 w.heap.size #[.int .i64 0, .int .i64 0, .int .i64 0, .int .i64 0, .int .i64 0, .int .i64 0, .int .i64 0, .int .i64 0] 27) := hb.keep B_r.out hnr.out
  replace HB : Hid (Bu p w v2) := HB.out.trans hb
  clear hs hb
  cases b with
  | true =>
    go_wp2_with fail
    refine (plain_any _ _ _ _ _ HS.out HN.out (by have := HA.out; omega) (by have := HA.out; omega)).mono ?_
    rintro e v3 ⟨gx, y3, rfl, _, ⟨y0, y1⟩, hs, hb⟩
    have HK3 : Hid (a + 1 ≤ y3 ∧ y3 ≤ a + 1 + 5) := ⟨y0, y1⟩
    clear y0 y1
    replace HS : Hid (Src w0 v3 v (y3) p) := hs
    replace B_r : Hid (Blk v3 w.heap.size #[.int .i64 0, .int .i64 0, .int .i64 0, .int .i64 0, .int .i64 0, .int .i64 0, .int .i64 0, .int .i64 0] 27) := hb.keep B_r.out hnr.out
    replace HB : Hid (Bu p w v3) := HB.out.trans hb
    clear hs hb
    have hn_x : Hid (v3.heap.size ≠ p) := by show _ ≠ _; have := HS.out.lt; omega
    have lo_x : Hid (w.heap.size ≤ v3.heap.size) := Nat.le_of_lt B_r.out.lt
    have h_x_r : Hid (v3.heap.size ≠ w.heap.size) := by show _ ≠ _; have := B_r.out.lt; omega
    go_upto_region 6 with fail
    obtain ⟨v4, hv⟩ : ∃ X, X = v3.alloc (.cells #[.int .i64 gx.n, .int .i64 gx.d] 25) := ⟨_, rfl⟩
    rw [← hv]
    have B_x : Hid (Blk v4 v3.heap.size #[.int .i64 gx.n, .int .i64 gx.d] 25) := by show Blk _ _ _ _; rw [hv]; exact Blk.new rfl
    replace B_r : Hid (Blk v4 w.heap.size #[.int .i64 0, .int .i64 0, .int .i64 0, .int .i64 0, .int .i64 0, .int .i64 0, .int .i64 0, .int .i64 0] 27) := by show Blk _ _ _ _; rw [hv]; exact Blk.alloc B_r.out _
    replace HS : Hid (Src w0 v4 v (y3) p) := by rw [hv]; exact HS.out.alloc _
    replace HB : Hid (Bu p w v4) := by rw [hv]; exact HB.out.alloc _
    clear hv
    go_wp2_with fail
    refine (plain_any _ _ _ _ _ HS.out HN.out (by have := HA.out; have := HK3.out; omega) (by have := HA.out; have := HK3.out; omega)).mono ?_
    rintro e v5 ⟨gy, y5, rfl, _, ⟨y0, y1⟩, hs, hb⟩
    have HK5 : Hid (y3 ≤ y5 ∧ y5 ≤ y3 + 5) := ⟨y0, y1⟩
    clear y0 y1
    replace HS : Hid (Src w0 v5 v (y5) p) := hs
    replace B_r : Hid (Blk v5 w.heap.size #[.int .i64 0, .int .i64 0, .int .i64 0, .int .i64 0, .int .i64 0, .int .i64 0, .int .i64 0, .int .i64 0] 27) := hb.keep B_r.out hnr.out
    replace B_x : Hid (Blk v5 v3.heap.size #[.int .i64 gx.n, .int .i64 gx.d] 25) := hb.keep B_x.out hn_x.out
    replace HB : Hid (Bu p w v5) := HB.out.trans hb
    clear hs hb
    have hn_y : Hid (v5.heap.size ≠ p) := by show _ ≠ _; have := HS.out.lt; omega
    have lo_y : Hid (w.heap.size ≤ v5.heap.size) := Nat.le_of_lt B_r.out.lt
    have h_y_r : Hid (v5.heap.size ≠ w.heap.size) := by show _ ≠ _; have := B_r.out.lt; omega
    have h_y_x : Hid (v5.heap.size ≠ v3.heap.size) := by show _ ≠ _; have := B_x.out.lt; omega
    go_upto_region 7 with fail
    obtain ⟨v6, hv⟩ : ∃ X, X = v5.alloc (.cells #[.int .i64 gy.n, .int .i64 gy.d] 25) := ⟨_, rfl⟩
    rw [← hv]
    have B_y : Hid (Blk v6 v5.heap.size #[.int .i64 gy.n, .int .i64 gy.d] 25) := by show Blk _ _ _ _; rw [hv]; exact Blk.new rfl
    replace B_r : Hid (Blk v6 w.heap.size #[.int .i64 0, .int .i64 0, .int .i64 0, .int .i64 0, .int .i64 0, .int .i64 0, .int .i64 0, .int .i64 0] 27) := by show Blk _ _ _ _; rw [hv]; exact Blk.alloc B_r.out _
    replace B_x : Hid (Blk v6 v3.heap.size #[.int .i64 gx.n, .int .i64 gx.d] 25) := by show Blk _ _ _ _; rw [hv]; exact Blk.alloc B_x.out _
    replace HS : Hid (Src w0 v6 v (y5) p) := by rw [hv]; exact HS.out.alloc _
    replace HB : Hid (Bu p w v6) := by rw [hv]; exact HB.out.alloc _
    clear hv
    go_wp2_with fail
    refine (plain_any _ _ _ _ _ HS.out HN.out (by have := HA.out; have := HK3.out; have := HK5.out; omega) (by have := HA.out; have := HK3.out; have := HK5.out; omega)).mono ?_
    rintro e v7 ⟨gz, y7, rfl, _, ⟨y0, y1⟩, hs, hb⟩
    have HK7 : Hid (y5 ≤ y7 ∧ y7 ≤ y5 + 5) := ⟨y0, y1⟩
    clear y0 y1
    replace HS : Hid (Src w0 v7 v (y7) p) := hs
    replace B_r : Hid (Blk v7 w.heap.size #[.int .i64 0, .int .i64 0, .int .i64 0, .int .i64 0, .int .i64 0, .int .i64 0, .int .i64 0, .int .i64 0] 27) := hb.keep B_r.out hnr.out
    replace B_x : Hid (Blk v7 v3.heap.size #[.int .i64 gx.n, .int .i64 gx.d] 25) := hb.keep B_x.out hn_x.out
    replace B_y : Hid (Blk v7 v5.heap.size #[.int .i64 gy.n, .int .i64 gy.d] 25) := hb.keep B_y.out hn_y.out
    replace HB : Hid (Bu p w v7) := HB.out.trans hb
    clear hs hb
    have hn_z : Hid (v7.heap.size ≠ p) := by show _ ≠ _; have := HS.out.lt; omega
    have lo_z : Hid (w.heap.size ≤ v7.heap.size) := Nat.le_of_lt B_r.out.lt
    have h_z_r : Hid (v7.heap.size ≠ w.heap.size) := by show _ ≠ _; have := B_r.out.lt; omega
    have h_z_x : Hid (v7.heap.size ≠ v3.heap.size) := by show _ ≠ _; have := B_x.out.lt; omega
    have h_z_y : Hid (v7.heap.size ≠ v5.heap.size) := by show _ ≠ _; have := B_y.out.lt; omega
    go_upto_region 8 with fail
    obtain ⟨v8, hv⟩ : ∃ X, X = v7.alloc (.cells #[.int .i64 gz.n, .int .i64 gz.d] 25) := ⟨_, rfl⟩
    rw [← hv]
    have B_z : Hid (Blk v8 v7.heap.size #[.int .i64 gz.n, .int .i64 gz.d] 25) := by show Blk _ _ _ _; rw [hv]; exact Blk.new rfl
    replace B_r : Hid (Blk v8 w.heap.size #[.int .i64 0, .int .i64 0, .int .i64 0, .int .i64 0, .int .i64 0, .int .i64 0, .int .i64 0, .int .i64 0] 27) := by show Blk _ _ _ _; rw [hv]; exact Blk.alloc B_r.out _
    replace B_x : Hid (Blk v8 v3.heap.size #[.int .i64 gx.n, .int .i64 gx.d] 25) := by show Blk _ _ _ _; rw [hv]; exact Blk.alloc B_x.out _
    replace B_y : Hid (Blk v8 v5.heap.size #[.int .i64 gy.n, .int .i64 gy.d] 25) := by show Blk _ _ _ _; rw [hv]; exact Blk.alloc B_y.out _
    replace HS : Hid (Src w0 v8 v (y7) p) := by rw [hv]; exact HS.out.alloc _
    replace HB : Hid (Bu p w v8) := by rw [hv]; exact HB.out.alloc _
    clear hv
    have kx_0 : ∀ W, (Blk W v3.heap.size #[.int .i64 gx.n, .int .i64 gx.d] 25 ∧ Blk W v5.heap.size #[.int .i64 gy.n, .int .i64 gy.d] 25 ∧ Blk W v7.heap.size #[.int .i64 gz.n, .int .i64 gz.d] 25) → W.cell? ⟨v3.heap.size, 0, none⟩ = some (.int .i64 gx.n) := fun _ h => (h.1).cell (j := 0) rfl
    have kx_1 : ∀ W, (Blk W v3.heap.size #[.int .i64 gx.n, .int .i64 gx.d] 25 ∧ Blk W v5.heap.size #[.int .i64 gy.n, .int .i64 gy.d] 25 ∧ Blk W v7.heap.size #[.int .i64 gz.n, .int .i64 gz.d] 25) → W.cell? ⟨v3.heap.size, 1, none⟩ = some (.int .i64 gx.d) := fun _ h => (h.1).cell (j := 1) rfl
    have ky_0 : ∀ W, (Blk W v3.heap.size #[.int .i64 gx.n, .int .i64 gx.d] 25 ∧ Blk W v5.heap.size #[.int .i64 gy.n, .int .i64 gy.d] 25 ∧ Blk W v7.heap.size #[.int .i64 gz.n, .int .i64 gz.d] 25) → W.cell? ⟨v5.heap.size, 0, none⟩ = some (.int .i64 gy.n) := fun _ h => (h.2.1).cell (j := 0) rfl
    have ky_1 : ∀ W, (Blk W v3.heap.size #[.int .i64 gx.n, .int .i64 gx.d] 25 ∧ Blk W v5.heap.size #[.int .i64 gy.n, .int .i64 gy.d] 25 ∧ Blk W v7.heap.size #[.int .i64 gz.n, .int .i64 gz.d] 25) → W.cell? ⟨v5.heap.size, 1, none⟩ = some (.int .i64 gy.d) := fun _ h => (h.2.1).cell (j := 1) rfl
    have kz_0 : ∀ W, (Blk W v3.heap.size #[.int .i64 gx.n, .int .i64 gx.d] 25 ∧ Blk W v5.heap.size #[.int .i64 gy.n, .int .i64 gy.d] 25 ∧ Blk W v7.heap.size #[.int .i64 gz.n, .int .i64 gz.d] 25) → W.cell? ⟨v7.heap.size, 0, none⟩ = some (.int .i64 gz.n) := fun _ h => (h.2.2).cell (j := 0) rfl
    have kz_1 : ∀ W, (Blk W v3.heap.size #[.int .i64 gx.n, .int .i64 gx.d] 25 ∧ Blk W v5.heap.size #[.int .i64 gy.n, .int .i64 gy.d] 25 ∧ Blk W v7.heap.size #[.int .i64 gz.n, .int .i64 gz.d] 25) → W.cell? ⟨v7.heap.size, 1, none⟩ = some (.int .i64 gz.d) := fun _ h => (h.2.2).cell (j := 1) rfl
    have hx0 : Blk v8 v3.heap.size #[.int .i64 gx.n, .int .i64 gx.d] 25 ∧ Blk v8 v5.heap.size #[.int .i64 gy.n, .int .i64 gy.d] 25 ∧ Blk v8 v7.heap.size #[.int .i64 gz.n, .int .i64 gz.d] 25 := ⟨B_x.out, B_y.out, B_z.out⟩
    go_region_held (fun W => Blk W v3.heap.size #[.int .i64 gx.n, .int .i64 gx.d] 25 ∧ Blk W v5.heap.size #[.int .i64 gy.n, .int .i64 gy.d] 25 ∧ Blk W v7.heap.size #[.int .i64 gz.n, .int .i64 gz.d] 25) (first | with_reducible assumption | with_reducible exact ⟨Blk.drew hx0.1, Blk.drew hx0.2.1, Blk.drew hx0.2.2⟩ | (have hh := hR1; with_reducible exact ⟨(Blk.setOther (Blk.setOther (Blk.setOther (Blk.setOther (Blk.setOther (Blk.setOther (Blk.setOther (Blk.setOther hh.1 h_x_r.out _) h_x_r.out _) h_x_r.out _) h_x_r.out _) h_x_r.out _) h_x_r.out _) h_x_r.out _) h_x_r.out _), (Blk.setOther (Blk.setOther (Blk.setOther (Blk.setOther (Blk.setOther (Blk.setOther (Blk.setOther (Blk.setOther hh.2.1 h_y_r.out _) h_y_r.out _) h_y_r.out _) h_y_r.out _) h_y_r.out _) h_y_r.out _) h_y_r.out _) h_y_r.out _), (Blk.setOther (Blk.setOther (Blk.setOther (Blk.setOther (Blk.setOther (Blk.setOther (Blk.setOther (Blk.setOther hh.2.2 h_z_r.out _) h_z_r.out _) h_z_r.out _) h_z_r.out _) h_z_r.out _) h_z_r.out _) h_z_r.out _) h_z_r.out _)⟩))
      (first | (go_at_call 14; refine (plain_any _ _ _ _ _ (Src.drew HS.out) HN.out (by have := HA.out; have := HK3.out; have := HK5.out; have := HK7.out; omega) (by have := HA.out; have := HK3.out; have := HK5.out; have := HK7.out; omega)).mono ?_; rintro e w1 ⟨gw, yw, rfl, _, ⟨y0, y1⟩, hs1, hb1⟩; have hR1 : Blk w1 v3.heap.size #[.int .i64 gx.n, .int .i64 gx.d] 25 ∧ Blk w1 v5.heap.size #[.int .i64 gy.n, .int .i64 gy.d] 25 ∧ Blk w1 v7.heap.size #[.int .i64 gz.n, .int .i64 gz.d] 25 := ⟨hb1.keep B_x.out hn_x.out, hb1.keep B_y.out hn_y.out, hb1.keep B_z.out hn_z.out⟩; have BR1 : Hid (Blk w1 w.heap.size #[.int .i64 0, .int .i64 0, .int .i64 0, .int .i64 0, .int .i64 0, .int .i64 0, .int .i64 0, .int .i64 0] 27) := hb1.keep B_r.out hnr.out; have HS1 : Hid (Src w0 w1 v yw p) := hs1; have HB1 : Hid (Bu p w w1) := HB.out.trans ((Bu.drew (Bu.refl _ _)).trans hb1); have HKw : Hid (y7 ≤ yw ∧ yw ≤ y7 + 5) := ⟨y0, y1⟩; clear hs1 hb1 y0 y1; have c0 := BR1.out.cell (j := 0) rfl; have c1 := BR1.out.cell (j := 1) rfl; have c2 := BR1.out.cell (j := 2) rfl; have c3 := BR1.out.cell (j := 3) rfl; have c4 := BR1.out.cell (j := 4) rfl; have c5 := BR1.out.cell (j := 5) rfl; have c6 := BR1.out.cell (j := 6) rfl; have c7 := BR1.out.cell (j := 7) rfl; have cf := BR1.out.frozen; have cz := BR1.out.lt))
    clear kx_0 kx_1 ky_0 ky_1 kz_0 kz_1 hx0
    go_wp2
    refine bodyPost_ret (v := Mv ⟨gx, gy, gz, gw⟩) (by simp [results, Try.results33, go_sem, c0, c1, c2, c3, c4, c5, c6, c7, cf, cz] <;> (repeat' (first | rfl | apply And.intro))) rfl ⟨⟨gx, gy, gz, gw⟩, yw, rfl, ⟨by have := HA.out; have := HK3.out; have := HK5.out; have := HK7.out; have := HKw.out; omega, by have := HA.out; have := HK3.out; have := HK5.out; have := HK7.out; have := HKw.out; omega⟩, ?_, ?_⟩
    · exact ((((((((HS1.out.set hnr.out HL.out _ (j := 0)).set hnr.out HL.out _ (j := 1)).set hnr.out HL.out _ (j := 2)).set hnr.out HL.out _ (j := 3)).set hnr.out HL.out _ (j := 4)).set hnr.out HL.out _ (j := 5)).set hnr.out HL.out _ (j := 6)).set hnr.out HL.out _ (j := 7))
    · exact ((((((((HB1.out.set (Nat.le_refl _) _).set (Nat.le_refl _) _).set (Nat.le_refl _) _).set (Nat.le_refl _) _).set (Nat.le_refl _) _).set (Nat.le_refl _) _).set (Nat.le_refl _) _).set (Nat.le_refl _) _)
  | false =>
    go_wp2_with fail
    refine (list_any HS.out HN.out (by have := HA.out; omega) (by have := HA.out; omega)).mono ?_
    rintro e v3 ⟨n, G, g, cap, al, rfl, hn4, sg, ⟨al0, al1⟩, hs, hb⟩
    have HG : Hid (SegV v3 g 34 n 3 (fun i j => ptc (G i) j)) := sg
    have hn4H : Hid (n ≤ 1000000000) := (by show n ≤ 1000000000; omega)
    have HKl : Hid (a + 1 ≤ al ∧ al ≤ a + 1 + 30) := ⟨al0, al1⟩
    clear sg al0 al1 hn4
    replace HS : Hid (Src w0 v3 v (al) p) := hs
    replace B_r : Hid (Blk v3 w.heap.size #[.int .i64 0, .int .i64 0, .int .i64 0, .int .i64 0, .int .i64 0, .int .i64 0, .int .i64 0, .int .i64 0] 27) := hb.keep B_r.out hnr.out
    replace HB : Hid (Bu p w v3) := HB.out.trans hb
    clear hs hb
    go_wp2_with fail
    refine (smatrix g 0 n cap G _ hn4H.out (rdp_of HG.out)).mono ?_
    rintro e v4 ⟨rfl, hbb⟩
    have hs := HS.out.later hbb
    have hb := Bu.of_below (p := p) hbb
    clear hbb HG hn4H
    replace HS : Hid (Src w0 v4 v (al) p) := hs
    replace B_r : Hid (Blk v4 w.heap.size #[.int .i64 0, .int .i64 0, .int .i64 0, .int .i64 0, .int .i64 0, .int .i64 0, .int .i64 0, .int .i64 0] 27) := hb.keep B_r.out hnr.out
    replace HB : Hid (Bu p w v4) := HB.out.trans hb
    clear hs hb
    obtain ⟨mm, hmm⟩ : ∃ mm, mm = mM G n := ⟨_, rfl⟩
    obtain ⟨cc, hcc⟩ : ∃ cc, cc = mC G n := ⟨_, rfl⟩
    rw [← hmm, ← hcc]
    clear hmm hcc
    have hn_P : Hid (v4.heap.size ≠ p) := by show _ ≠ _; have := HS.out.lt; omega
    have lo_P : Hid (w.heap.size ≤ v4.heap.size) := Nat.le_of_lt B_r.out.lt
    have h_P_r : Hid (v4.heap.size ≠ w.heap.size) := by show _ ≠ _; have := B_r.out.lt; omega
    go_upto_region 3 with fail
    obtain ⟨v5, hv⟩ : ∃ X, X = v4.alloc (.cells #[.int .i64 cc, .int .i64 mm.A.n, .int .i64 mm.A.d, .int .i64 mm.B.n, .int .i64 mm.B.d, .int .i64 mm.C.n, .int .i64 mm.C.d, .int .i64 mm.D.n, .int .i64 mm.D.d] 37) := ⟨_, rfl⟩
    rw [← hv]
    have B_P : Hid (Blk v5 v4.heap.size #[.int .i64 cc, .int .i64 mm.A.n, .int .i64 mm.A.d, .int .i64 mm.B.n, .int .i64 mm.B.d, .int .i64 mm.C.n, .int .i64 mm.C.d, .int .i64 mm.D.n, .int .i64 mm.D.d] 37) := by show Blk _ _ _ _; rw [hv]; exact Blk.new rfl
    replace B_r : Hid (Blk v5 w.heap.size #[.int .i64 0, .int .i64 0, .int .i64 0, .int .i64 0, .int .i64 0, .int .i64 0, .int .i64 0, .int .i64 0] 27) := by show Blk _ _ _ _; rw [hv]; exact Blk.alloc B_r.out _
    replace HS : Hid (Src w0 v5 v (al) p) := by rw [hv]; exact HS.out.alloc _
    replace HB : Hid (Bu p w v5) := by rw [hv]; exact HB.out.alloc _
    clear hv
    by_cases hc : cc = 0
    · subst hc
      have P0 := B_P.out.cell (j := 0) (v := .int .i64 0) rfl
      have P1 := B_P.out.cell (j := 1) (v := .int .i64 mm.A.n) rfl
      have P2 := B_P.out.cell (j := 2) (v := .int .i64 mm.A.d) rfl
      have P3 := B_P.out.cell (j := 3) (v := .int .i64 mm.B.n) rfl
      have P4 := B_P.out.cell (j := 4) (v := .int .i64 mm.B.d) rfl
      have P5 := B_P.out.cell (j := 5) (v := .int .i64 mm.C.n) rfl
      have P6 := B_P.out.cell (j := 6) (v := .int .i64 mm.C.d) rfl
      have P7 := B_P.out.cell (j := 7) (v := .int .i64 mm.D.n) rfl
      have P8 := B_P.out.cell (j := 8) (v := .int .i64 mm.D.d) rfl
      have Pf := B_P.out.frozen
      have Pz := B_P.out.lt
      have c0 := B_r.out.cell (j := 0) rfl
      have c1 := B_r.out.cell (j := 1) rfl
      have c2 := B_r.out.cell (j := 2) rfl
      have c3 := B_r.out.cell (j := 3) rfl
      have c4 := B_r.out.cell (j := 4) rfl
      have c5 := B_r.out.cell (j := 5) rfl
      have c6 := B_r.out.cell (j := 6) rfl
      have c7 := B_r.out.cell (j := 7) rfl
      have cf := B_r.out.frozen
      have cz := B_r.out.lt
      go_wp2
      refine bodyPost_ret (v := Mv mm) (by simp [results, Try.results33, go_sem, c0, c1, c2, c3, c4, c5, c6, c7, cf, cz] <;> (repeat' (first | rfl | apply And.intro))) rfl ⟨mm, al, rfl, ⟨by have := HA.out; have := HKl.out; omega, by have := HA.out; have := HKl.out; omega⟩, ?_, ?_⟩
      · exact ((((((((HS.out.set hnr.out HL.out _ (j := 0)).set hnr.out HL.out _ (j := 1)).set hnr.out HL.out _ (j := 2)).set hnr.out HL.out _ (j := 3)).set hnr.out HL.out _ (j := 4)).set hnr.out HL.out _ (j := 5)).set hnr.out HL.out _ (j := 6)).set hnr.out HL.out _ (j := 7))
      · exact ((((((((HB.out.set (Nat.le_refl _) _).set (Nat.le_refl _) _).set (Nat.le_refl _) _).set (Nat.le_refl _) _).set (Nat.le_refl _) _).set (Nat.le_refl _) _).set (Nat.le_refl _) _).set (Nat.le_refl _) _)
    have hcb : (cc == 0) = false := by simpa using hc
    have P0 := B_P.out.cell (j := 0) (v := .int .i64 cc) rfl
    go_upto_region 5 with fail
    clear P0 hcb hc
    go_wp2_with fail
    refine (plain_any _ _ _ _ _ HS.out HN.out (by have := HA.out; have := HKl.out; omega) (by have := HA.out; have := HKl.out; omega)).mono ?_
    rintro e v6 ⟨gx, y6, rfl, _, ⟨y0, y1⟩, hs, hb⟩
    have HK6 : Hid (al ≤ y6 ∧ y6 ≤ al + 5) := ⟨y0, y1⟩
    clear y0 y1
    replace HS : Hid (Src w0 v6 v (y6) p) := hs
    replace B_r : Hid (Blk v6 w.heap.size #[.int .i64 0, .int .i64 0, .int .i64 0, .int .i64 0, .int .i64 0, .int .i64 0, .int .i64 0, .int .i64 0] 27) := hb.keep B_r.out hnr.out
    replace B_P : Hid (Blk v6 v4.heap.size #[.int .i64 cc, .int .i64 mm.A.n, .int .i64 mm.A.d, .int .i64 mm.B.n, .int .i64 mm.B.d, .int .i64 mm.C.n, .int .i64 mm.C.d, .int .i64 mm.D.n, .int .i64 mm.D.d] 37) := hb.keep B_P.out hn_P.out
    replace HB : Hid (Bu p w v6) := HB.out.trans hb
    clear hs hb
    have hn_x : Hid (v6.heap.size ≠ p) := by show _ ≠ _; have := HS.out.lt; omega
    have lo_x : Hid (w.heap.size ≤ v6.heap.size) := Nat.le_of_lt B_r.out.lt
    have h_x_r : Hid (v6.heap.size ≠ w.heap.size) := by show _ ≠ _; have := B_r.out.lt; omega
    have h_x_P : Hid (v6.heap.size ≠ v4.heap.size) := by show _ ≠ _; have := B_P.out.lt; omega
    go_upto_region 6 with fail
    obtain ⟨v7, hv⟩ : ∃ X, X = v6.alloc (.cells #[.int .i64 gx.n, .int .i64 gx.d] 25) := ⟨_, rfl⟩
    rw [← hv]
    have B_x : Hid (Blk v7 v6.heap.size #[.int .i64 gx.n, .int .i64 gx.d] 25) := by show Blk _ _ _ _; rw [hv]; exact Blk.new rfl
    replace B_r : Hid (Blk v7 w.heap.size #[.int .i64 0, .int .i64 0, .int .i64 0, .int .i64 0, .int .i64 0, .int .i64 0, .int .i64 0, .int .i64 0] 27) := by show Blk _ _ _ _; rw [hv]; exact Blk.alloc B_r.out _
    replace B_P : Hid (Blk v7 v4.heap.size #[.int .i64 cc, .int .i64 mm.A.n, .int .i64 mm.A.d, .int .i64 mm.B.n, .int .i64 mm.B.d, .int .i64 mm.C.n, .int .i64 mm.C.d, .int .i64 mm.D.n, .int .i64 mm.D.d] 37) := by show Blk _ _ _ _; rw [hv]; exact Blk.alloc B_P.out _
    replace HS : Hid (Src w0 v7 v (y6) p) := by rw [hv]; exact HS.out.alloc _
    replace HB : Hid (Bu p w v7) := by rw [hv]; exact HB.out.alloc _
    clear hv
    go_wp2_with fail
    refine (plain_any _ _ _ _ _ HS.out HN.out (by have := HA.out; have := HKl.out; have := HK6.out; omega) (by have := HA.out; have := HKl.out; have := HK6.out; omega)).mono ?_
    rintro e v8 ⟨gy, y8, rfl, _, ⟨y0, y1⟩, hs, hb⟩
    have HK8 : Hid (y6 ≤ y8 ∧ y8 ≤ y6 + 5) := ⟨y0, y1⟩
    clear y0 y1
    replace HS : Hid (Src w0 v8 v (y8) p) := hs
    replace B_r : Hid (Blk v8 w.heap.size #[.int .i64 0, .int .i64 0, .int .i64 0, .int .i64 0, .int .i64 0, .int .i64 0, .int .i64 0, .int .i64 0] 27) := hb.keep B_r.out hnr.out
    replace B_P : Hid (Blk v8 v4.heap.size #[.int .i64 cc, .int .i64 mm.A.n, .int .i64 mm.A.d, .int .i64 mm.B.n, .int .i64 mm.B.d, .int .i64 mm.C.n, .int .i64 mm.C.d, .int .i64 mm.D.n, .int .i64 mm.D.d] 37) := hb.keep B_P.out hn_P.out
    replace B_x : Hid (Blk v8 v6.heap.size #[.int .i64 gx.n, .int .i64 gx.d] 25) := hb.keep B_x.out hn_x.out
    replace HB : Hid (Bu p w v8) := HB.out.trans hb
    clear hs hb
    have hn_y : Hid (v8.heap.size ≠ p) := by show _ ≠ _; have := HS.out.lt; omega
    have lo_y : Hid (w.heap.size ≤ v8.heap.size) := Nat.le_of_lt B_r.out.lt
    have h_y_r : Hid (v8.heap.size ≠ w.heap.size) := by show _ ≠ _; have := B_r.out.lt; omega
    have h_y_P : Hid (v8.heap.size ≠ v4.heap.size) := by show _ ≠ _; have := B_P.out.lt; omega
    have h_y_x : Hid (v8.heap.size ≠ v6.heap.size) := by show _ ≠ _; have := B_x.out.lt; omega
    go_upto_region 7 with fail
    obtain ⟨v9, hv⟩ : ∃ X, X = v8.alloc (.cells #[.int .i64 gy.n, .int .i64 gy.d] 25) := ⟨_, rfl⟩
    rw [← hv]
    have B_y : Hid (Blk v9 v8.heap.size #[.int .i64 gy.n, .int .i64 gy.d] 25) := by show Blk _ _ _ _; rw [hv]; exact Blk.new rfl
    replace B_r : Hid (Blk v9 w.heap.size #[.int .i64 0, .int .i64 0, .int .i64 0, .int .i64 0, .int .i64 0, .int .i64 0, .int .i64 0, .int .i64 0] 27) := by show Blk _ _ _ _; rw [hv]; exact Blk.alloc B_r.out _
    replace B_P : Hid (Blk v9 v4.heap.size #[.int .i64 cc, .int .i64 mm.A.n, .int .i64 mm.A.d, .int .i64 mm.B.n, .int .i64 mm.B.d, .int .i64 mm.C.n, .int .i64 mm.C.d, .int .i64 mm.D.n, .int .i64 mm.D.d] 37) := by show Blk _ _ _ _; rw [hv]; exact Blk.alloc B_P.out _
    replace B_x : Hid (Blk v9 v6.heap.size #[.int .i64 gx.n, .int .i64 gx.d] 25) := by show Blk _ _ _ _; rw [hv]; exact Blk.alloc B_x.out _
    replace HS : Hid (Src w0 v9 v (y8) p) := by rw [hv]; exact HS.out.alloc _
    replace HB : Hid (Bu p w v9) := by rw [hv]; exact HB.out.alloc _
    clear hv
    go_wp2_with fail
    refine (plain_any _ _ _ _ _ HS.out HN.out (by have := HA.out; have := HKl.out; have := HK6.out; have := HK8.out; omega) (by have := HA.out; have := HKl.out; have := HK6.out; have := HK8.out; omega)).mono ?_
    rintro e v10 ⟨gz, y10, rfl, _, ⟨y0, y1⟩, hs, hb⟩
    have HK10 : Hid (y8 ≤ y10 ∧ y10 ≤ y8 + 5) := ⟨y0, y1⟩
    clear y0 y1
    replace HS : Hid (Src w0 v10 v (y10) p) := hs
    replace B_r : Hid (Blk v10 w.heap.size #[.int .i64 0, .int .i64 0, .int .i64 0, .int .i64 0, .int .i64 0, .int .i64 0, .int .i64 0, .int .i64 0] 27) := hb.keep B_r.out hnr.out
    replace B_P : Hid (Blk v10 v4.heap.size #[.int .i64 cc, .int .i64 mm.A.n, .int .i64 mm.A.d, .int .i64 mm.B.n, .int .i64 mm.B.d, .int .i64 mm.C.n, .int .i64 mm.C.d, .int .i64 mm.D.n, .int .i64 mm.D.d] 37) := hb.keep B_P.out hn_P.out
    replace B_x : Hid (Blk v10 v6.heap.size #[.int .i64 gx.n, .int .i64 gx.d] 25) := hb.keep B_x.out hn_x.out
    replace B_y : Hid (Blk v10 v8.heap.size #[.int .i64 gy.n, .int .i64 gy.d] 25) := hb.keep B_y.out hn_y.out
    replace HB : Hid (Bu p w v10) := HB.out.trans hb
    clear hs hb
    have hn_z : Hid (v10.heap.size ≠ p) := by show _ ≠ _; have := HS.out.lt; omega
    have lo_z : Hid (w.heap.size ≤ v10.heap.size) := Nat.le_of_lt B_r.out.lt
    have h_z_r : Hid (v10.heap.size ≠ w.heap.size) := by show _ ≠ _; have := B_r.out.lt; omega
    have h_z_P : Hid (v10.heap.size ≠ v4.heap.size) := by show _ ≠ _; have := B_P.out.lt; omega
    have h_z_x : Hid (v10.heap.size ≠ v6.heap.size) := by show _ ≠ _; have := B_x.out.lt; omega
    have h_z_y : Hid (v10.heap.size ≠ v8.heap.size) := by show _ ≠ _; have := B_y.out.lt; omega
    go_upto_region 8 with fail
    obtain ⟨v11, hv⟩ : ∃ X, X = v10.alloc (.cells #[.int .i64 gz.n, .int .i64 gz.d] 25) := ⟨_, rfl⟩
    rw [← hv]
    have B_z : Hid (Blk v11 v10.heap.size #[.int .i64 gz.n, .int .i64 gz.d] 25) := by show Blk _ _ _ _; rw [hv]; exact Blk.new rfl
    replace B_r : Hid (Blk v11 w.heap.size #[.int .i64 0, .int .i64 0, .int .i64 0, .int .i64 0, .int .i64 0, .int .i64 0, .int .i64 0, .int .i64 0] 27) := by show Blk _ _ _ _; rw [hv]; exact Blk.alloc B_r.out _
    replace B_P : Hid (Blk v11 v4.heap.size #[.int .i64 cc, .int .i64 mm.A.n, .int .i64 mm.A.d, .int .i64 mm.B.n, .int .i64 mm.B.d, .int .i64 mm.C.n, .int .i64 mm.C.d, .int .i64 mm.D.n, .int .i64 mm.D.d] 37) := by show Blk _ _ _ _; rw [hv]; exact Blk.alloc B_P.out _
    replace B_x : Hid (Blk v11 v6.heap.size #[.int .i64 gx.n, .int .i64 gx.d] 25) := by show Blk _ _ _ _; rw [hv]; exact Blk.alloc B_x.out _
    replace B_y : Hid (Blk v11 v8.heap.size #[.int .i64 gy.n, .int .i64 gy.d] 25) := by show Blk _ _ _ _; rw [hv]; exact Blk.alloc B_y.out _
    replace HS : Hid (Src w0 v11 v (y10) p) := by rw [hv]; exact HS.out.alloc _
    replace HB : Hid (Bu p w v11) := by rw [hv]; exact HB.out.alloc _
    clear hv
    have kx_0 : ∀ W, (Blk W v6.heap.size #[.int .i64 gx.n, .int .i64 gx.d] 25 ∧ Blk W v8.heap.size #[.int .i64 gy.n, .int .i64 gy.d] 25 ∧ Blk W v10.heap.size #[.int .i64 gz.n, .int .i64 gz.d] 25) → W.cell? ⟨v6.heap.size, 0, none⟩ = some (.int .i64 gx.n) := fun _ h => (h.1).cell (j := 0) rfl
    have kx_1 : ∀ W, (Blk W v6.heap.size #[.int .i64 gx.n, .int .i64 gx.d] 25 ∧ Blk W v8.heap.size #[.int .i64 gy.n, .int .i64 gy.d] 25 ∧ Blk W v10.heap.size #[.int .i64 gz.n, .int .i64 gz.d] 25) → W.cell? ⟨v6.heap.size, 1, none⟩ = some (.int .i64 gx.d) := fun _ h => (h.1).cell (j := 1) rfl
    have ky_0 : ∀ W, (Blk W v6.heap.size #[.int .i64 gx.n, .int .i64 gx.d] 25 ∧ Blk W v8.heap.size #[.int .i64 gy.n, .int .i64 gy.d] 25 ∧ Blk W v10.heap.size #[.int .i64 gz.n, .int .i64 gz.d] 25) → W.cell? ⟨v8.heap.size, 0, none⟩ = some (.int .i64 gy.n) := fun _ h => (h.2.1).cell (j := 0) rfl
    have ky_1 : ∀ W, (Blk W v6.heap.size #[.int .i64 gx.n, .int .i64 gx.d] 25 ∧ Blk W v8.heap.size #[.int .i64 gy.n, .int .i64 gy.d] 25 ∧ Blk W v10.heap.size #[.int .i64 gz.n, .int .i64 gz.d] 25) → W.cell? ⟨v8.heap.size, 1, none⟩ = some (.int .i64 gy.d) := fun _ h => (h.2.1).cell (j := 1) rfl
    have kz_0 : ∀ W, (Blk W v6.heap.size #[.int .i64 gx.n, .int .i64 gx.d] 25 ∧ Blk W v8.heap.size #[.int .i64 gy.n, .int .i64 gy.d] 25 ∧ Blk W v10.heap.size #[.int .i64 gz.n, .int .i64 gz.d] 25) → W.cell? ⟨v10.heap.size, 0, none⟩ = some (.int .i64 gz.n) := fun _ h => (h.2.2).cell (j := 0) rfl
    have kz_1 : ∀ W, (Blk W v6.heap.size #[.int .i64 gx.n, .int .i64 gx.d] 25 ∧ Blk W v8.heap.size #[.int .i64 gy.n, .int .i64 gy.d] 25 ∧ Blk W v10.heap.size #[.int .i64 gz.n, .int .i64 gz.d] 25) → W.cell? ⟨v10.heap.size, 1, none⟩ = some (.int .i64 gz.d) := fun _ h => (h.2.2).cell (j := 1) rfl
    have hx0 : Blk v11 v6.heap.size #[.int .i64 gx.n, .int .i64 gx.d] 25 ∧ Blk v11 v8.heap.size #[.int .i64 gy.n, .int .i64 gy.d] 25 ∧ Blk v11 v10.heap.size #[.int .i64 gz.n, .int .i64 gz.d] 25 := ⟨B_x.out, B_y.out, B_z.out⟩
    go_region_held (fun W => Blk W v6.heap.size #[.int .i64 gx.n, .int .i64 gx.d] 25 ∧ Blk W v8.heap.size #[.int .i64 gy.n, .int .i64 gy.d] 25 ∧ Blk W v10.heap.size #[.int .i64 gz.n, .int .i64 gz.d] 25) (first | with_reducible assumption | with_reducible exact ⟨Blk.drew hx0.1, Blk.drew hx0.2.1, Blk.drew hx0.2.2⟩ | (have hh := hR1; with_reducible exact ⟨(Blk.setOther (Blk.setOther (Blk.setOther (Blk.setOther (Blk.setOther (Blk.setOther (Blk.setOther (Blk.setOther hh.1 h_x_r.out _) h_x_r.out _) h_x_r.out _) h_x_r.out _) h_x_r.out _) h_x_r.out _) h_x_r.out _) h_x_r.out _), (Blk.setOther (Blk.setOther (Blk.setOther (Blk.setOther (Blk.setOther (Blk.setOther (Blk.setOther (Blk.setOther hh.2.1 h_y_r.out _) h_y_r.out _) h_y_r.out _) h_y_r.out _) h_y_r.out _) h_y_r.out _) h_y_r.out _) h_y_r.out _), (Blk.setOther (Blk.setOther (Blk.setOther (Blk.setOther (Blk.setOther (Blk.setOther (Blk.setOther (Blk.setOther hh.2.2 h_z_r.out _) h_z_r.out _) h_z_r.out _) h_z_r.out _) h_z_r.out _) h_z_r.out _) h_z_r.out _) h_z_r.out _)⟩))
      (first | (go_at_call 14; refine (plain_any _ _ _ _ _ (Src.drew HS.out) HN.out (by have := HA.out; have := HKl.out; have := HK6.out; have := HK8.out; have := HK10.out; omega) (by have := HA.out; have := HKl.out; have := HK6.out; have := HK8.out; have := HK10.out; omega)).mono ?_; rintro e w1 ⟨gw, yw, rfl, _, ⟨y0, y1⟩, hs1, hb1⟩; have hR1 : Blk w1 v6.heap.size #[.int .i64 gx.n, .int .i64 gx.d] 25 ∧ Blk w1 v8.heap.size #[.int .i64 gy.n, .int .i64 gy.d] 25 ∧ Blk w1 v10.heap.size #[.int .i64 gz.n, .int .i64 gz.d] 25 := ⟨hb1.keep B_x.out hn_x.out, hb1.keep B_y.out hn_y.out, hb1.keep B_z.out hn_z.out⟩; have BR1 : Hid (Blk w1 w.heap.size #[.int .i64 0, .int .i64 0, .int .i64 0, .int .i64 0, .int .i64 0, .int .i64 0, .int .i64 0, .int .i64 0] 27) := hb1.keep B_r.out hnr.out; have HS1 : Hid (Src w0 w1 v yw p) := hs1; have HB1 : Hid (Bu p w w1) := HB.out.trans ((Bu.drew (Bu.refl _ _)).trans hb1); have HKw : Hid (y10 ≤ yw ∧ yw ≤ y10 + 5) := ⟨y0, y1⟩; clear hs1 hb1 y0 y1; have c0 := BR1.out.cell (j := 0) rfl; have c1 := BR1.out.cell (j := 1) rfl; have c2 := BR1.out.cell (j := 2) rfl; have c3 := BR1.out.cell (j := 3) rfl; have c4 := BR1.out.cell (j := 4) rfl; have c5 := BR1.out.cell (j := 5) rfl; have c6 := BR1.out.cell (j := 6) rfl; have c7 := BR1.out.cell (j := 7) rfl; have cf := BR1.out.frozen; have cz := BR1.out.lt))
    clear kx_0 kx_1 ky_0 ky_1 kz_0 kz_1 hx0
    go_wp2
    refine bodyPost_ret (v := Mv ⟨gx, gy, gz, gw⟩) (by simp [results, Try.results33, go_sem, c0, c1, c2, c3, c4, c5, c6, c7, cf, cz] <;> (repeat' (first | rfl | apply And.intro))) rfl ⟨⟨gx, gy, gz, gw⟩, yw, rfl, ⟨by have := HA.out; have := HKl.out; have := HK6.out; have := HK8.out; have := HK10.out; have := HKw.out; omega, by have := HA.out; have := HKl.out; have := HK6.out; have := HK8.out; have := HK10.out; have := HKw.out; omega⟩, ?_, ?_⟩
    · exact ((((((((HS1.out.set hnr.out HL.out _ (j := 0)).set hnr.out HL.out _ (j := 1)).set hnr.out HL.out _ (j := 2)).set hnr.out HL.out _ (j := 3)).set hnr.out HL.out _ (j := 4)).set hnr.out HL.out _ (j := 5)).set hnr.out HL.out _ (j := 6)).set hnr.out HL.out _ (j := 7))
    · exact ((((((((HB1.out.set (Nat.le_refl _) _).set (Nat.le_refl _) _).set (Nat.le_refl _) _).set (Nat.le_refl _) _).set (Nat.le_refl _) _).set (Nat.le_refl _) _).set (Nat.le_refl _) _).set (Nat.le_refl _) _)
set_option maxRecDepth 20000 in
set_option maxHeartbeats 6400000 in
theorem bentm_any : Dx 11 70 := by
  intro w0 w v a p hS NX h0 hK
  have HA : Hid (0 ≤ a ∧ a + 70 ≤ 900) := ⟨h0, hK⟩
  have HN : Hid (Nexts w0 v p) := NX
  have hpw : Hid (p < w.heap.size) := hS.lt
  have HL : Hid (w0.heap.size ≤ w.heap.size) := hS.below.size
  have hnr : Hid (w.heap.size ≠ p) := by show _ ≠ _; have := hpw.out; omega
  clear h0 hK NX
  go_enter Try.func11, Try.ntmps11
  go_upto_region 1 with fail
  obtain ⟨v1, hv⟩ : ∃ X, X = w.alloc (.cells #[.int .i64 0, .int .i64 0, .int .i64 0, .int .i64 0, .int .i64 0, .int .i64 0, .int .i64 0, .int .i64 0] 27) := ⟨_, rfl⟩
  rw [← hv]
  have HS : Hid (Src w0 v1 v a p) := by rw [hv]; exact hS.alloc _
  have HB : Hid (Bu p w v1) := by rw [hv]; exact (Bu.refl _ _).alloc _
  have B_r : Hid (Blk v1 w.heap.size #[.int .i64 0, .int .i64 0, .int .i64 0, .int .i64 0, .int .i64 0, .int .i64 0, .int .i64 0, .int .i64 0] 27) := by show Blk _ _ _ _; rw [hv]; exact Blk.new rfl
  clear hv hS
  go_wp2_with fail
  refine (matrix_any _ _ _ _ _ HS.out HN.out (by have := HA.out; omega) (by have := HA.out; omega)).mono ?_
  rintro e v2 ⟨mm, y2, rfl, ⟨y0, y1⟩, hs, hb⟩
  have HK2 : Hid (a ≤ y2 ∧ y2 ≤ a + 60) := ⟨y0, y1⟩
  clear y0 y1
  replace HS : Hid (Src w0 v2 v (y2) p) := hs
  replace B_r : Hid (Blk v2 w.heap.size #[.int .i64 0, .int .i64 0, .int .i64 0, .int .i64 0, .int .i64 0, .int .i64 0, .int .i64 0, .int .i64 0] 27) := hb.keep B_r.out hnr.out
  replace HB : Hid (Bu p w v2) := HB.out.trans hb
  clear hs hb
  have hn_F : Hid (v2.heap.size ≠ p) := by show _ ≠ _; have := HS.out.lt; omega
  have lo_F : Hid (w.heap.size ≤ v2.heap.size) := Nat.le_of_lt B_r.out.lt
  have h_F_r : Hid (v2.heap.size ≠ w.heap.size) := by show _ ≠ _; have := B_r.out.lt; omega
  go_upto_region 2 with fail
  obtain ⟨v3, hv⟩ : ∃ X, X = v2.alloc (.cells #[.int .i64 mm.A.n, .int .i64 mm.A.d, .int .i64 mm.B.n, .int .i64 mm.B.d, .int .i64 mm.C.n, .int .i64 mm.C.d, .int .i64 mm.D.n, .int .i64 mm.D.d] 27) := ⟨_, rfl⟩
  rw [← hv]
  have B_F : Hid (Blk v3 v2.heap.size #[.int .i64 mm.A.n, .int .i64 mm.A.d, .int .i64 mm.B.n, .int .i64 mm.B.d, .int .i64 mm.C.n, .int .i64 mm.C.d, .int .i64 mm.D.n, .int .i64 mm.D.d] 27) := by show Blk _ _ _ _; rw [hv]; exact Blk.new rfl
  replace B_r : Hid (Blk v3 w.heap.size #[.int .i64 0, .int .i64 0, .int .i64 0, .int .i64 0, .int .i64 0, .int .i64 0, .int .i64 0, .int .i64 0] 27) := by show Blk _ _ _ _; rw [hv]; exact Blk.alloc B_r.out _
  replace HS : Hid (Src w0 v3 v (y2) p) := by rw [hv]; exact HS.out.alloc _
  replace HB : Hid (Bu p w v3) := by rw [hv]; exact HB.out.alloc _
  clear hv
  go_wp2_with fail
  refine (chance_any HS.out HN.out (by have := HA.out; have := HK2.out; omega) (by have := HA.out; have := HK2.out; omega) 20 (by omega) (by omega)).mono ?_
  rintro e v4 ⟨b, rfl, hs, hb⟩
  replace HS : Hid (Src w0 v4 v (y2 + 1) p) := hs
  replace B_r : Hid (Blk v4 w.heap.size #[.int .i64 0, .int .i64 0, .int .i64 0, .int .i64 0, .int .i64 0, .int .i64 0, .int .i64 0, .int .i64 0] 27) := hb.keep B_r.out hnr.out
  replace B_F : Hid (Blk v4 v2.heap.size #[.int .i64 mm.A.n, .int .i64 mm.A.d, .int .i64 mm.B.n, .int .i64 mm.B.d, .int .i64 mm.C.n, .int .i64 mm.C.d, .int .i64 mm.D.n, .int .i64 mm.D.d] 27) := hb.keep B_F.out hn_F.out
  replace HB : Hid (Bu p w v4) := HB.out.trans hb
  clear hs hb
  cases b with
  | false =>
    have F0 := B_F.out.cell (j := 0) (v := .int .i64 mm.A.n) rfl
    have F1 := B_F.out.cell (j := 1) (v := .int .i64 mm.A.d) rfl
    have F2 := B_F.out.cell (j := 2) (v := .int .i64 mm.B.n) rfl
    have F3 := B_F.out.cell (j := 3) (v := .int .i64 mm.B.d) rfl
    have F4 := B_F.out.cell (j := 4) (v := .int .i64 mm.C.n) rfl
    have F5 := B_F.out.cell (j := 5) (v := .int .i64 mm.C.d) rfl
    have F6 := B_F.out.cell (j := 6) (v := .int .i64 mm.D.n) rfl
    have F7 := B_F.out.cell (j := 7) (v := .int .i64 mm.D.d) rfl
    have c0 := B_r.out.cell (j := 0) rfl
    have c1 := B_r.out.cell (j := 1) rfl
    have c2 := B_r.out.cell (j := 2) rfl
    have c3 := B_r.out.cell (j := 3) rfl
    have c4 := B_r.out.cell (j := 4) rfl
    have c5 := B_r.out.cell (j := 5) rfl
    have c6 := B_r.out.cell (j := 6) rfl
    have c7 := B_r.out.cell (j := 7) rfl
    have cf := B_r.out.frozen
    have cz := B_r.out.lt
    go_wp2
    refine bodyPost_ret (v := Mv mm) (by simp [results, Try.results11, go_sem, c0, c1, c2, c3, c4, c5, c6, c7, cf, cz] <;> (repeat' (first | rfl | apply And.intro))) rfl ⟨mm, y2 + 1, rfl, ⟨by have := HA.out; have := HK2.out; omega, by have := HA.out; have := HK2.out; omega⟩, ?_, ?_⟩
    · exact ((((((((HS.out.set hnr.out HL.out _ (j := 0)).set hnr.out HL.out _ (j := 1)).set hnr.out HL.out _ (j := 2)).set hnr.out HL.out _ (j := 3)).set hnr.out HL.out _ (j := 4)).set hnr.out HL.out _ (j := 5)).set hnr.out HL.out _ (j := 6)).set hnr.out HL.out _ (j := 7))
    · exact ((((((((HB.out.set (Nat.le_refl _) _).set (Nat.le_refl _) _).set (Nat.le_refl _) _).set (Nat.le_refl _) _).set (Nat.le_refl _) _).set (Nat.le_refl _) _).set (Nat.le_refl _) _).set (Nat.le_refl _) _)
  | true =>
    go_wp2_with fail
    refine (bent_any _ _ _ _ _ HS.out HN.out (by have := HA.out; have := HK2.out; omega) (by have := HA.out; have := HK2.out; omega)).mono ?_
    rintro e v5 ⟨q, y5, rfl, _, ⟨y0, y1⟩, hs, hb⟩
    have HK5 : Hid (y2 + 1 ≤ y5 ∧ y5 ≤ y2 + 1 + 6) := ⟨y0, y1⟩
    clear y0 y1
    replace HS : Hid (Src w0 v5 v (y5) p) := hs
    replace B_r : Hid (Blk v5 w.heap.size #[.int .i64 0, .int .i64 0, .int .i64 0, .int .i64 0, .int .i64 0, .int .i64 0, .int .i64 0, .int .i64 0] 27) := hb.keep B_r.out hnr.out
    replace B_F : Hid (Blk v5 v2.heap.size #[.int .i64 mm.A.n, .int .i64 mm.A.d, .int .i64 mm.B.n, .int .i64 mm.B.d, .int .i64 mm.C.n, .int .i64 mm.C.d, .int .i64 mm.D.n, .int .i64 mm.D.d] 27) := hb.keep B_F.out hn_F.out
    replace HB : Hid (Bu p w v5) := HB.out.trans hb
    clear hs hb
    have F0 := B_F.out.cell (j := 0) (v := .int .i64 mm.A.n) rfl
    have F1 := B_F.out.cell (j := 1) (v := .int .i64 mm.A.d) rfl
    have F2 := B_F.out.cell (j := 2) (v := .int .i64 mm.B.n) rfl
    have F3 := B_F.out.cell (j := 3) (v := .int .i64 mm.B.d) rfl
    have F4 := B_F.out.cell (j := 4) (v := .int .i64 mm.C.n) rfl
    have F5 := B_F.out.cell (j := 5) (v := .int .i64 mm.C.d) rfl
    have F6 := B_F.out.cell (j := 6) (v := .int .i64 mm.D.n) rfl
    have F7 := B_F.out.cell (j := 7) (v := .int .i64 mm.D.d) rfl
    have Ff := B_F.out.frozen
    have Fz := B_F.out.lt
    have c0 := B_r.out.cell (j := 0) rfl
    have c1 := B_r.out.cell (j := 1) rfl
    have c2 := B_r.out.cell (j := 2) rfl
    have c3 := B_r.out.cell (j := 3) rfl
    have c4 := B_r.out.cell (j := 4) rfl
    have c5 := B_r.out.cell (j := 5) rfl
    have c6 := B_r.out.cell (j := 6) rfl
    have c7 := B_r.out.cell (j := 7) rfl
    have cf := B_r.out.frozen
    have cz := B_r.out.lt
    have hfr := h_F_r.out
    go_wp2
    refine bodyPost_ret (v := Mv ⟨mm.A, q, mm.C, mm.D⟩) (by simp [results, Try.results11, go_sem, c0, c1, c2, c3, c4, c5, c6, c7, cf, cz] <;> (repeat' (first | rfl | apply And.intro))) rfl ⟨⟨mm.A, q, mm.C, mm.D⟩, y5, rfl, ⟨by have := HA.out; have := HK2.out; have := HK5.out; omega, by have := HA.out; have := HK2.out; have := HK5.out; omega⟩, ?_, ?_⟩
    · exact ((((((((((HS.out.set hn_F.out (Nat.le_trans HL.out lo_F.out) _).set hn_F.out (Nat.le_trans HL.out lo_F.out) _).set hnr.out HL.out _ (j := 0)).set hnr.out HL.out _ (j := 1)).set hnr.out HL.out _ (j := 2)).set hnr.out HL.out _ (j := 3)).set hnr.out HL.out _ (j := 4)).set hnr.out HL.out _ (j := 5)).set hnr.out HL.out _ (j := 6)).set hnr.out HL.out _ (j := 7))
    · exact ((((((((((HB.out.set lo_F.out _).set lo_F.out _).set (Nat.le_refl _) _).set (Nat.le_refl _) _).set (Nat.le_refl _) _).set (Nat.le_refl _) _).set (Nat.le_refl _) _).set (Nat.le_refl _) _).set (Nat.le_refl _) _).set (Nat.le_refl _) _)
end Go.Proofs.Ytdmjfphmgpkfcaa
