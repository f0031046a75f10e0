/- Rules: the first of a layer, what is wrong with them; contracts. -/
import Derived.Test.YtclnmikneomccaaPn
import Derived.Test.YtclnmikneomccaaLu
import Derived.Test.YtclnmikneomccaaBd
import Derived.Test.YtclnmikneomccaaRg
namespace Go.Proofs.Ytclnmikneomccaa
open Go.RowKit Go.Maps
set_option linter.unusedVariables false
set_option linter.unusedSimpArgs false
/-- The first rule of a layer; nothing where there is none. -/
def frl (R : Nat → U.G) (m : Nat) (l : Int) : U.G := if fpl (fun k => (R k).ly == l) m < 0 then U.zsp else R (fpl (fun k => (R k).ly == l) m).toNat
theorem frl_none {R : Nat → U.G} {m : Nat} {l : Int} (h : ∀ k, k < m → ((R k).ly == l) = false) : frl R m l = U.zsp := by
  unfold frl
  rw [fpl_none (B := fun k => (R k).ly == l) h]
  rfl
theorem frl_hit {R : Nat → U.G} {m k : Nat} {l : Int} (hk : k < m) (hb : ((R k).ly == l) = true) (h : ∀ j, j < k → ((R j).ly == l) = false) : frl R m l = R k := by
  unfold frl
  rw [fpl_hit (B := fun k => (R k).ly == l) hk hb h, if_neg (by omega)]
  rfl
/-- What is wrong with rules. -/
def uone (r : U.G) : Int := if Mt.all (fun k => Mt.inR ((fun i => if i = 0 then r.wd else r.sp) k) 0 1000) 2 then 0 else 3
def ucode (R : Nat → U.G) (m : Nat) : Int := if 20 < m then 2 else fstN (fun k => uone (R k)) m
theorem set3 {W : World} {p : Nat} {x : U.G} (y : U.G) (h : Blk W p #[.int .i64 x.ly, .int .i64 x.wd, .int .i64 x.sp] 77) : Blk (((W.setCell ⟨p, 0, none⟩ (.int .i64 y.ly)).setCell ⟨p, 1, none⟩ (.int .i64 y.wd)).setCell ⟨p, 2, none⟩ (.int .i64 y.sp)) p #[.int .i64 y.ly, .int .i64 y.wd, .int .i64 y.sp] 77 := ((h.set 0 _ rfl).set 1 _ rfl).set 2 _ rfl
theorem set3b {W w : World} {p B : Nat} (y : U.G) (h : Below B w W) (hB : B ≤ p) : Below B w (((W.setCell ⟨p, 0, none⟩ (.int .i64 y.ly)).setCell ⟨p, 1, none⟩ (.int .i64 y.wd)).setCell ⟨p, 2, none⟩ (.int .i64 y.sp)) := ((h.setCell hB _).setCell hB _).setCell hB _
set_option maxRecDepth 20000 in
set_option maxHeartbeats 6400000 in
theorem sRule_any {w : World} {po : Option Addr} {m pc : Nat} {R : Nat → U.G} (h : U.Rsp w (.slice po m pc) m R) (hm : m ≤ 1048576) (l : Int) :
    Calls Try.prog 62 #[.slice po m pc, .int .i64 l] w fun e w' => e = .returned (.agg #[.int .i64 (frl R m l).ly, .int .i64 (frl R m l).wd, .int .i64 (frl R m l).sp]) ∧ Below w.heap.size w w' := by
  have HA : ∀ W, Below w.heap.size w W → Hid (U.Rsp W (.slice po m pc) m R) := fun W hb => h.later hb
  have hmI : (m : Int) ≤ 1048576 := by omega
  obtain ⟨C, hC⟩ : ∃ C, C = frl R m l := ⟨_, rfl⟩
  have HC : Hid (C = frl R m l) := hC
  rw [← hC]
  clear h hC
  go_enter Try.func62, Try.ntmps62
  go_wp2_with fail
  obtain ⟨w1, hw1⟩ : ∃ W, W = w.alloc (.cells #[.int .i64 0, .int .i64 0, .int .i64 0] 77) := ⟨_, rfl⟩
  obtain ⟨p4, h4⟩ : ∃ p, p = w.heap.size := ⟨_, rfl⟩
  have H1 : Hid (Blk w1 p4 #[.int .i64 0, .int .i64 0, .int .i64 0] 77 ∧ Below w.heap.size w w1) := by rw [hw1]; exact ⟨Blk.new h4, box_stay (Below.refl _ _) _⟩
  have HP4 : Hid (w.heap.size ≤ p4) := by show _ ≤ _; omega
  rw [← hw1, ← h4]
  clear hw1 h4
  go_loopw [5] (fun i wr => ∃ k : Nat, k ≤ m ∧ i = .int .i64 k ∧ Hid (Blk wr p4 #[.int .i64 0, .int .i64 0, .int .i64 0] 77 ∧ Below w.heap.size w wr ∧ ∀ j, j < k → ((R j).ly == l) = false)) (fun i _ => m - (intOf i).toNat)
  case atStart => exact ⟨0, Nat.zero_le _, rfl, H1.out.1, H1.out.2, fun j hj => absurd hj (Nat.not_lt_zero _)⟩
  case round =>
    obtain ⟨k, hk, rfl, HH⟩ := hrel
    by_cases hkm : k < m
    · have hkI : (k : Int) < m := by omega
      obtain ⟨b, off, hao, hc⟩ := (HA wr HH.out.2.1).out.at hkm
      subst hao
      obtain ⟨r, hr⟩ : ∃ r, r = R k := ⟨_, rfl⟩
      rw [← hr] at hc
      have c0 : wr.cell? ⟨b, off + k * 3, none⟩ = some (.int .i64 r.ly) := hc 0 (by omega)
      have c1 : wr.cell? ⟨b, off + k * 3 + 1, none⟩ = some (.int .i64 r.wd) := hc 1 (by omega)
      have c2 : wr.cell? ⟨b, off + k * 3 + 2, none⟩ = some (.int .i64 r.sp) := hc 2 (by omega)
      have HR : Hid (r = R k) := hr
      clear hc hr
      obtain ⟨wb, hwb⟩ : ∃ W, W = wr := ⟨_, rfl⟩
      rw [← hwb] at HH c0 c1 c2 ⊢
      clear hwb
      have HB : Hid (Blk wb p4 #[.int .i64 0, .int .i64 0, .int .i64 0] 77 ∧ Below w.heap.size w wb) := ⟨HH.out.1, HH.out.2.1⟩
      by_cases he : r.ly = l
      · have heb : (r.ly == l) = true := by simpa using he
        have HS : Hid (C = r) := by
          show C = r
          rw [HC.out, frl_hit hkm (by rw [← HR.out]; exact heb) HH.out.2.2, ← HR.out]
        have e0 := HB.out.1.cell (j := 0) rfl
        have e1 := HB.out.1.cell (j := 1) rfl
        have e2 := HB.out.1.cell (j := 2) rfl
        have ef : ∀ j, wb.frozen? ⟨p4, j, none⟩ = false := fun j => HB.out.1.frozen j
        obtain ⟨w4, hw4⟩ : ∃ W, W = (((wb.setCell ⟨p4, 0, none⟩ (.int .i64 r.ly)).setCell ⟨p4, 1, none⟩ (.int .i64 r.wd)).setCell ⟨p4, 2, none⟩ (.int .i64 r.sp)) := ⟨_, rfl⟩
        have H4 : Hid (Blk w4 p4 #[.int .i64 r.ly, .int .i64 r.wd, .int .i64 r.sp] 77 ∧ Below w.heap.size w w4 ∧ w4 = (((wb.setCell ⟨p4, 0, none⟩ (.int .i64 r.ly)).setCell ⟨p4, 1, none⟩ (.int .i64 r.wd)).setCell ⟨p4, 2, none⟩ (.int .i64 r.sp))) := ⟨by rw [hw4]; exact set3 r (x := U.zsp) HB.out.1, by rw [hw4]; exact set3b r HB.out.2 HP4.out, hw4⟩
        clear hw4
        replace he : Hid _ := he
        go_wp2_with fail
        rw [← H4.out.2.2]
        have s0 := H4.out.1.cell (j := 0) rfl
        have s1 := H4.out.1.cell (j := 1) rfl
        have s2 := H4.out.1.cell (j := 2) rfl
        refine bodyPost_ret (v := .agg #[.int .i64 r.ly, .int .i64 r.wd, .int .i64 r.sp]) (by simp [results, Try.results62, go_sem, s0, s1, s2]) rfl ⟨by rw [HS.out], H4.out.2.1⟩
      · have heb : (r.ly == l) = false := by simpa using he
        have HF : Hid (Blk wb p4 #[.int .i64 0, .int .i64 0, .int .i64 0] 77 ∧ Below w.heap.size w wb ∧ ∀ j, j < k + 1 → ((R j).ly == l) = false) := ⟨HB.out.1, HB.out.2, fun j hj => by
          by_cases e : j = k
          · subst e; rw [← HR.out]; exact heb
          · exact HH.out.2.2 j (by omega)⟩
        replace he : Hid _ := he
        go_wp2
        go_roundw
        case rel => exact ⟨k + 1, by omega, by simp, HF⟩
        case measure => simp [intOf]; omega
    · obtain rfl : m = k := by omega
      have HS : Hid (C = U.zsp) := by
        show C = _
        rw [HC.out, frl_none HH.out.2.2]
      have e0 := HH.out.1.cell (j := 0) rfl
      have e1 := HH.out.1.cell (j := 1) rfl
      have e2 := HH.out.1.cell (j := 2) rfl
      have ef : ∀ j, wr.frozen? ⟨p4, j, none⟩ = false := fun j => HH.out.1.frozen j
      obtain ⟨w4, hw4⟩ : ∃ W, W = (((wr.setCell ⟨p4, 0, none⟩ (.int .i64 0)).setCell ⟨p4, 1, none⟩ (.int .i64 0)).setCell ⟨p4, 2, none⟩ (.int .i64 0)) := ⟨_, rfl⟩
      have H4 : Hid (Blk w4 p4 #[.int .i64 0, .int .i64 0, .int .i64 0] 77 ∧ Below w.heap.size w w4 ∧ w4 = (((wr.setCell ⟨p4, 0, none⟩ (.int .i64 0)).setCell ⟨p4, 1, none⟩ (.int .i64 0)).setCell ⟨p4, 2, none⟩ (.int .i64 0))) := ⟨by rw [hw4]; exact set3 U.zsp (x := U.zsp) HH.out.1, by rw [hw4]; exact set3b U.zsp HH.out.2.1 HP4.out, hw4⟩
      clear hw4 HA
      go_wp2_with fail
      rw [← H4.out.2.2]
      have s0 := H4.out.1.cell (j := 0) rfl
      have s1 := H4.out.1.cell (j := 1) rfl
      have s2 := H4.out.1.cell (j := 2) rfl
      refine bodyPost_ret (v := .agg #[.int .i64 0, .int .i64 0, .int .i64 0]) (by simp [results, Try.results62, go_sem, s0, s1, s2]) rfl ⟨by rw [HS.out]; rfl, H4.out.2.1⟩
set_option maxRecDepth 20000 in
set_option maxHeartbeats 6400000 in
theorem iRule_any {w : World} {po : Option Addr} {m pc : Nat} {R : Nat → U.G} (h : U.Rsp w (.slice po m pc) m R) (hm : m ≤ 1048576) (l : Int) :
    Calls Try.prog 70 #[.slice po m pc, .int .i64 l] w fun e w' => e = .returned (.agg #[.int .i64 (frl R m l).ly, .int .i64 (frl R m l).wd, .int .i64 (frl R m l).sp]) ∧ Below w.heap.size w w' := by
  have HA : ∀ W, Below w.heap.size w W → Hid (U.Rsp W (.slice po m pc) m R) := fun W hb => h.later hb
  have hmI : (m : Int) ≤ 1048576 := by omega
  obtain ⟨C, hC⟩ : ∃ C, C = frl R m l := ⟨_, rfl⟩
  have HC : Hid (C = frl R m l) := hC
  rw [← hC]
  clear h hC
  go_enter Try.func70, Try.ntmps70
  go_wp2_with fail
  obtain ⟨w1, hw1⟩ : ∃ W, W = w.alloc (.cells #[.int .i64 0, .int .i64 0, .int .i64 0] 77) := ⟨_, rfl⟩
  obtain ⟨p4, h4⟩ : ∃ p, p = w.heap.size := ⟨_, rfl⟩
  have H1 : Hid (Blk w1 p4 #[.int .i64 0, .int .i64 0, .int .i64 0] 77 ∧ Below w.heap.size w w1) := by rw [hw1]; exact ⟨Blk.new h4, box_stay (Below.refl _ _) _⟩
  have HP4 : Hid (w.heap.size ≤ p4) := by show _ ≤ _; omega
  rw [← hw1, ← h4]
  clear hw1 h4
  go_loopw [9] (fun i wr => ∃ k : Nat, k ≤ m ∧ i = .int .i64 k ∧ Hid (Blk wr p4 #[.int .i64 0, .int .i64 0, .int .i64 0] 77 ∧ Below w.heap.size w wr ∧ ∀ j, j < k → ((R j).ly == l) = false)) (fun i _ => m - (intOf i).toNat)
  case atStart => exact ⟨0, Nat.zero_le _, rfl, H1.out.1, H1.out.2, fun j hj => absurd hj (Nat.not_lt_zero _)⟩
  case round =>
    obtain ⟨k, hk, rfl, HH⟩ := hrel
    by_cases hkm : k < m
    · have hkI : (k : Int) < m := by omega
      obtain ⟨b, off, hao, hc⟩ := (HA wr HH.out.2.1).out.at hkm
      subst hao
      obtain ⟨r, hr⟩ : ∃ r, r = R k := ⟨_, rfl⟩
      rw [← hr] at hc
      have c0 : wr.cell? ⟨b, off + k * 3, none⟩ = some (.int .i64 r.ly) := hc 0 (by omega)
      have c1 : wr.cell? ⟨b, off + k * 3 + 1, none⟩ = some (.int .i64 r.wd) := hc 1 (by omega)
      have c2 : wr.cell? ⟨b, off + k * 3 + 2, none⟩ = some (.int .i64 r.sp) := hc 2 (by omega)
      have HR : Hid (r = R k) := hr
      clear hc hr
      go_upto_region 4 with fail
      obtain ⟨wb, hwb⟩ : ∃ W, W = wr.alloc (.cells #[.int .i64 r.ly, .int .i64 r.wd, .int .i64 r.sp] 77) := ⟨_, rfl⟩
      obtain ⟨p6, h6⟩ : ∃ p, p = wr.heap.size := ⟨_, rfl⟩
      have HB : Hid (Blk wb p4 #[.int .i64 0, .int .i64 0, .int .i64 0] 77 ∧ Below w.heap.size w wb ∧ Blk wb p6 #[.int .i64 r.ly, .int .i64 r.wd, .int .i64 r.sp] 77) := ⟨by rw [hwb]; exact HH.out.1.alloc _, by rw [hwb]; exact box_stay HH.out.2.1 _, by rw [hwb]; exact Blk.new h6⟩
      rw [← hwb, ← h6]
      clear hwb h6 c0 c1 c2
      have c0 := HB.out.2.2.cell (j := 0) rfl
      have c1 := HB.out.2.2.cell (j := 1) rfl
      have c2 := HB.out.2.2.cell (j := 2) rfl
      by_cases he : r.ly = l
      · have heb : (r.ly == l) = true := by simpa using he
        have HS : Hid (C = r) := by
          show C = r
          rw [HC.out, frl_hit hkm (by rw [← HR.out]; exact heb) HH.out.2.2, ← HR.out]
        have e0 := HB.out.1.cell (j := 0) rfl
        have e1 := HB.out.1.cell (j := 1) rfl
        have e2 := HB.out.1.cell (j := 2) rfl
        have ef : ∀ j, wb.frozen? ⟨p4, j, none⟩ = false := fun j => HB.out.1.frozen j
        obtain ⟨w4, hw4⟩ : ∃ W, W = (((wb.setCell ⟨p4, 0, none⟩ (.int .i64 r.ly)).setCell ⟨p4, 1, none⟩ (.int .i64 r.wd)).setCell ⟨p4, 2, none⟩ (.int .i64 r.sp)) := ⟨_, rfl⟩
        have H4 : Hid (Blk w4 p4 #[.int .i64 r.ly, .int .i64 r.wd, .int .i64 r.sp] 77 ∧ Below w.heap.size w w4 ∧ w4 = (((wb.setCell ⟨p4, 0, none⟩ (.int .i64 r.ly)).setCell ⟨p4, 1, none⟩ (.int .i64 r.wd)).setCell ⟨p4, 2, none⟩ (.int .i64 r.sp))) := ⟨by rw [hw4]; exact set3 r (x := U.zsp) HB.out.1, by rw [hw4]; exact set3b r HB.out.2.1 HP4.out, hw4⟩
        clear hw4
        replace he : Hid _ := he
        go_wp2_with fail
        rw [← H4.out.2.2]
        have s0 := H4.out.1.cell (j := 0) rfl
        have s1 := H4.out.1.cell (j := 1) rfl
        have s2 := H4.out.1.cell (j := 2) rfl
        refine bodyPost_ret (v := .agg #[.int .i64 r.ly, .int .i64 r.wd, .int .i64 r.sp]) (by simp [results, Try.results70, go_sem, s0, s1, s2]) rfl ⟨by rw [HS.out], H4.out.2.1⟩
      · have heb : (r.ly == l) = false := by simpa using he
        have HF : Hid (Blk wb p4 #[.int .i64 0, .int .i64 0, .int .i64 0] 77 ∧ Below w.heap.size w wb ∧ ∀ j, j < k + 1 → ((R j).ly == l) = false) := ⟨HB.out.1, HB.out.2.1, fun j hj => by
          by_cases e : j = k
          · subst e; rw [← HR.out]; exact heb
          · exact HH.out.2.2 j (by omega)⟩
        replace he : Hid _ := he
        go_wp2
        go_roundw
        case rel => exact ⟨k + 1, by omega, by simp, HF⟩
        case measure => simp [intOf]; omega
    · obtain rfl : m = k := by omega
      have HS : Hid (C = U.zsp) := by
        show C = _
        rw [HC.out, frl_none HH.out.2.2]
      have e0 := HH.out.1.cell (j := 0) rfl
      have e1 := HH.out.1.cell (j := 1) rfl
      have e2 := HH.out.1.cell (j := 2) rfl
      have ef : ∀ j, wr.frozen? ⟨p4, j, none⟩ = false := fun j => HH.out.1.frozen j
      obtain ⟨w4, hw4⟩ : ∃ W, W = (((wr.setCell ⟨p4, 0, none⟩ (.int .i64 0)).setCell ⟨p4, 1, none⟩ (.int .i64 0)).setCell ⟨p4, 2, none⟩ (.int .i64 0)) := ⟨_, rfl⟩
      have H4 : Hid (Blk w4 p4 #[.int .i64 0, .int .i64 0, .int .i64 0] 77 ∧ Below w.heap.size w w4 ∧ w4 = (((wr.setCell ⟨p4, 0, none⟩ (.int .i64 0)).setCell ⟨p4, 1, none⟩ (.int .i64 0)).setCell ⟨p4, 2, none⟩ (.int .i64 0))) := ⟨by rw [hw4]; exact set3 U.zsp (x := U.zsp) HH.out.1, by rw [hw4]; exact set3b U.zsp HH.out.2.1 HP4.out, hw4⟩
      clear hw4 HA
      go_wp2_with fail
      rw [← H4.out.2.2]
      have s0 := H4.out.1.cell (j := 0) rfl
      have s1 := H4.out.1.cell (j := 1) rfl
      have s2 := H4.out.1.cell (j := 2) rfl
      refine bodyPost_ret (v := .agg #[.int .i64 0, .int .i64 0, .int .i64 0]) (by simp [results, Try.results70, go_sem, s0, s1, s2]) rfl ⟨by rw [HS.out]; rfl, H4.out.2.1⟩
end Go.Proofs.Ytclnmikneomccaa
