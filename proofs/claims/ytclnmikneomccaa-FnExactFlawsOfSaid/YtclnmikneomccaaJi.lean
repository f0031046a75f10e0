/- Rectangles that are joined, by the program: contracts. -/
import Derived.Test.YtclnmikneomccaaJo
namespace Go.Proofs.Ytclnmikneomccaa
open Go.RowKit
set_option linter.unusedVariables false
set_option linter.unusedSimpArgs false
set_option maxRecDepth 20000 in
set_option maxHeartbeats 6400000 in
theorem iCommon_any {a b : R.G} (ha : Rok a) (hb : Rok b) (w : World) :
    Calls Try.prog 99 #[.agg #[.int .i64 a.ly, .int .i64 a.xa, .int .i64 a.ya, .int .i64 a.xb, .int .i64 a.yb], .agg #[.int .i64 b.ly, .int .i64 b.xa, .int .i64 b.ya, .int .i64 b.xb, .int .i64 b.yb]] w fun e w' => e = .returned (.tuple #[.int .i64 (cmn a.xa a.xb b.xa b.xb), .int .i64 (cmn a.ya a.yb b.ya b.yb)]) ∧ Below w.heap.size w w' := by
  obtain ⟨X, hx⟩ : ∃ X, X = cmn a.xa a.xb b.xa b.xb := ⟨_, rfl⟩
  obtain ⟨Y, hy⟩ : ∃ Y, Y = cmn a.ya a.yb b.ya b.yb := ⟨_, rfl⟩
  have hbd := cmn_b ha hb
  have h1 : wrap64 ((if b.xb < a.xb then b.xb else a.xb) - if a.xa < b.xa then b.xa else a.xa) = X := by
    have : (if b.xb < a.xb then b.xb else a.xb) - (if a.xa < b.xa then b.xa else a.xa) = X := by rw [hx]; unfold cmn; omega
    rw [this]; unfold wrap64; omega
  have h2 : wrap64 ((if b.yb < a.yb then b.yb else a.yb) - if a.ya < b.ya then b.ya else a.ya) = Y := by
    have : (if b.yb < a.yb then b.yb else a.yb) - (if a.ya < b.ya then b.ya else a.ya) = Y := by rw [hy]; unfold cmn; omega
    rw [this]; unfold wrap64; omega
  have H12 : Hid _ := And.intro h1 h2
  clear h1 h2
  have HXY : Hid (X = cmn a.xa a.xb b.xa b.xb ∧ Y = cmn a.ya a.yb b.ya b.yb) := ⟨hx, hy⟩
  rw [← hx, ← hy]
  clear hbd hx hy ha hb
  go_enter Try.func99, Try.ntmps99
  go_upto_region 1 with fail
  obtain ⟨wb, hwb⟩ : ∃ W, W = (w.alloc (.cells #[.int .i64 a.ly, .int .i64 a.xa, .int .i64 a.ya, .int .i64 a.xb, .int .i64 a.yb] 68)).alloc (.cells #[.int .i64 b.ly, .int .i64 b.xa, .int .i64 b.ya, .int .i64 b.xb, .int .i64 b.yb] 68) := ⟨_, rfl⟩
  have A : Blk wb w.heap.size #[.int .i64 a.ly, .int .i64 a.xa, .int .i64 a.ya, .int .i64 a.xb, .int .i64 a.yb] 68 := by rw [hwb]; exact (Blk.new rfl).alloc _
  have B : Blk wb (w.heap.size + 1) #[.int .i64 b.ly, .int .i64 b.xa, .int .i64 b.ya, .int .i64 b.xb, .int .i64 b.yb] 68 := by rw [hwb]; exact Blk.new (by simp)
  have HB : Hid (Below w.heap.size w wb) := by rw [hwb]; exact box_stay (box_stay (Below.refl _ _) _) _
  rw [← hwb]
  clear hwb
  have K1 : ∀ x : Kept wb.heap.size wb, x.w.cell? ⟨w.heap.size, 1, none⟩ = some (.int .i64 a.xa) := fun x => (A.old x.h).cell rfl
  have K2 : ∀ x : Kept wb.heap.size wb, x.w.cell? ⟨w.heap.size, 2, none⟩ = some (.int .i64 a.ya) := fun x => (A.old x.h).cell rfl
  have K3 : ∀ x : Kept wb.heap.size wb, x.w.cell? ⟨w.heap.size, 3, none⟩ = some (.int .i64 a.xb) := fun x => (A.old x.h).cell rfl
  have K4 : ∀ x : Kept wb.heap.size wb, x.w.cell? ⟨w.heap.size, 4, none⟩ = some (.int .i64 a.yb) := fun x => (A.old x.h).cell rfl
  have M1 : ∀ x : Kept wb.heap.size wb, x.w.cell? ⟨w.heap.size + 1, 1, none⟩ = some (.int .i64 b.xa) := fun x => (B.old x.h).cell rfl
  have M2 : ∀ x : Kept wb.heap.size wb, x.w.cell? ⟨w.heap.size + 1, 2, none⟩ = some (.int .i64 b.ya) := fun x => (B.old x.h).cell rfl
  have M3 : ∀ x : Kept wb.heap.size wb, x.w.cell? ⟨w.heap.size + 1, 3, none⟩ = some (.int .i64 b.xb) := fun x => (B.old x.h).cell rfl
  have M4 : ∀ x : Kept wb.heap.size wb, x.w.cell? ⟨w.heap.size + 1, 4, none⟩ = some (.int .i64 b.yb) := fun x => (B.old x.h).cell rfl
  clear A B
  refine wp_region_kept wb.heap.size (by kernel_rfl) (by kernel_rfl) ?_
  intro hne
  repeat (go_big_quiet_step (fail))
  refine wpQuiet_nil ?_
  rintro u ⟨xk, hxk⟩
  have hR1 := xk.h
  rw [← hxk] at hR1
  have HU : Hid (Below w.heap.size w u) := HB.out.trans (hR1.mono HB.out.size)
  clear hxk xk hne K1 K2 K3 K4 M1 M2 M3 M4 hR1
  rw [H12.out.1, H12.out.2]
  generalize (if b.xb < a.xb then b.xb else a.xb) = p1
  generalize (if a.xa < b.xa then b.xa else a.xa) = p2
  generalize (if b.yb < a.yb then b.yb else a.yb) = p3
  generalize (if a.ya < b.ya then b.ya else a.ya) = p4
  go_wp2
  refine bodyPost_ret (v := .tuple #[.int .i64 X, .int .i64 Y]) (by simp [results, Try.results99, go_sem]) rfl ⟨rfl, HU.out⟩
def viaN (la lb : Int) : Prop := (la = 0 ∧ (lb = 1 ∨ lb = 2)) ∨ (lb = 0 ∧ (la = 1 ∨ la = 2))
set_option maxRecDepth 20000 in
set_option maxHeartbeats 6400000 in
theorem iVia_any (la lb : Int) (h0 : 0 ≤ la) (h1 : 0 ≤ lb) (hne : la ≠ lb) (t : Bool) (ht : t = true ↔ viaN la lb) (w : World) : Calls Try.prog 100 #[.int .i64 la, .int .i64 lb] w fun e w' => e = .returned (.bool t) ∧ w = w' := by
  have HT : Hid (t = true ↔ viaN la lb) := ht
  have HN : Hid (la ≠ lb) := hne
  clear ht
  by_cases c : lb < la
  · clear hne
    by_cases q : lb = 0
    · have e1 : (lb == 0) = true := by simpa using q
      by_cases g : la ≤ 2
      · have hs : Hid (t = true) := HT.out.2 (by unfold viaN; omega)
        replace q : Hid _ := q
        go_enter Try.func100, Try.ntmps100
        go_wp2
        go_ret
        exact ⟨by rw [hs.out]; rfl, rfl⟩
      · have hs : Hid (t = false) := by
          show t = false
          cases t with
          | false => rfl
          | true => exact absurd (HT.out.1 rfl) (by unfold viaN; omega)
        replace q : Hid _ := q
        go_enter Try.func100, Try.ntmps100
        go_wp2
        go_ret
        exact ⟨by rw [hs.out]; rfl, rfl⟩
    · have e1 : (lb == 0) = false := by simpa using q
      have hs : Hid (t = false) := by
        show t = false
        cases t with
        | false => rfl
        | true => exact absurd (HT.out.1 rfl) (by unfold viaN; omega)
      replace q : Hid _ := q
      go_enter Try.func100, Try.ntmps100
      go_wp2
      go_ret
      exact ⟨by rw [hs.out]; rfl, rfl⟩
  · have c2 : la < lb := by omega
    clear hne
    by_cases q : la = 0
    · have e1 : (la == 0) = true := by simpa using q
      by_cases g : lb ≤ 2
      · have hs : Hid (t = true) := HT.out.2 (by unfold viaN; omega)
        replace q : Hid _ := q
        go_enter Try.func100, Try.ntmps100
        go_wp2
        go_ret
        exact ⟨by rw [hs.out]; rfl, rfl⟩
      · have hs : Hid (t = false) := by
          show t = false
          cases t with
          | false => rfl
          | true => exact absurd (HT.out.1 rfl) (by unfold viaN; omega)
        replace q : Hid _ := q
        go_enter Try.func100, Try.ntmps100
        go_wp2
        go_ret
        exact ⟨by rw [hs.out]; rfl, rfl⟩
    · have e1 : (la == 0) = false := by simpa using q
      have hs : Hid (t = false) := by
        show t = false
        cases t with
        | false => rfl
        | true => exact absurd (HT.out.1 rfl) (by unfold viaN; omega)
      replace q : Hid _ := q
      go_enter Try.func100, Try.ntmps100
      go_wp2
      go_ret
      exact ⟨by rw [hs.out]; rfl, rfl⟩
end Go.Proofs.Ytclnmikneomccaa
