/- The union's chiefs, by the program: a contract. -/
import Derived.Test.YtclnmikneomccaaMb
import Derived.Test.YtclnmikneomccaaNg
import Derived.Test.YtclnmikneomccaaRp
namespace Go.Proofs.Ytclnmikneomccaa
open Go.RowKit Go.Maps
set_option linter.unusedVariables false
set_option linter.unusedSimpArgs false
def Uo (W : World) (bm sz : Nat) (ab : R.G → Option R.G) : Prop := HasM MRR W bm sz ab ∧ ∀ x y, ab x = some y → y.b64
theorem Uo.later {w w' : World} {bm sz : Nat} {ab : R.G → Option R.G} (h : Uo w bm sz ab) (hb : Below w.heap.size w w') : Uo w' bm sz ab := ⟨h.1.later hb, h.2⟩
theorem chief_top {ab : R.G → Option R.G} {ch : R.G → R.G} {d : R.G → Nat} (hF : Nw.Fo ab ch d) (hk : ∀ x y, ab x = some y → y.b64) : ∀ (n : Nat) (x : R.G), d x ≤ n → x.b64 → ab (ch x) = none ∧ (ch x).b64
  | n, x, hn, hx => by
    cases hc : ab x with
    | none => rw [hF.top x hc]; exact ⟨hc, hx⟩
    | some y =>
      obtain ⟨h1, h2⟩ := hF.up x y hc
      match n, hn with
      | 0, hn => omega
      | n + 1, hn =>
        rw [← h1]
        exact chief_top hF hk n y (by omega) (hk x y hc)
theorem rblk_inj {W : World} {p : Nat} {x y : R.G} (h : Blk W p #[.int .i64 x.ly, .int .i64 x.xa, .int .i64 x.ya, .int .i64 x.xb, .int .i64 x.yb] 68) (k : Blk W p #[.int .i64 y.ly, .int .i64 y.xa, .int .i64 y.ya, .int .i64 y.xb, .int .i64 y.yb] 68) : x = y := by
  unfold Blk at h k
  rw [h] at k
  simp only [Option.some.injEq, Obj.cells.injEq] at k
  exact rval_inj (by unfold rval; rw [k.1])
theorem set5 {W : World} {p : Nat} {x : R.G} (y : R.G) (h : Blk W p #[.int .i64 x.ly, .int .i64 x.xa, .int .i64 x.ya, .int .i64 x.xb, .int .i64 x.yb] 68) : Blk (((((W.setCell ⟨p, 0, none⟩ (.int .i64 y.ly)).setCell ⟨p, 1, none⟩ (.int .i64 y.xa)).setCell ⟨p, 2, none⟩ (.int .i64 y.ya)).setCell ⟨p, 3, none⟩ (.int .i64 y.xb)).setCell ⟨p, 4, none⟩ (.int .i64 y.yb)) p #[.int .i64 y.ly, .int .i64 y.xa, .int .i64 y.ya, .int .i64 y.xb, .int .i64 y.yb] 68 :=
  ((((h.set 0 _ rfl).set 1 _ rfl).set 2 _ rfl).set 3 _ rfl).set 4 _ rfl
theorem set5o {W : World} {p q : Nat} {cs : Array Value} {t : TypeId} (y : R.G) (h : Blk W q cs t) (hne : q ≠ p) : Blk (((((W.setCell ⟨p, 0, none⟩ (.int .i64 y.ly)).setCell ⟨p, 1, none⟩ (.int .i64 y.xa)).setCell ⟨p, 2, none⟩ (.int .i64 y.ya)).setCell ⟨p, 3, none⟩ (.int .i64 y.xb)).setCell ⟨p, 4, none⟩ (.int .i64 y.yb)) q cs t :=
  ((((h.setOther hne _).setOther hne _).setOther hne _).setOther hne _).setOther hne _
theorem set5b {W w : World} {p B : Nat} (y : R.G) (h : Below B w W) (hB : B ≤ p) : Below B w (((((W.setCell ⟨p, 0, none⟩ (.int .i64 y.ly)).setCell ⟨p, 1, none⟩ (.int .i64 y.xa)).setCell ⟨p, 2, none⟩ (.int .i64 y.ya)).setCell ⟨p, 3, none⟩ (.int .i64 y.xb)).setCell ⟨p, 4, none⟩ (.int .i64 y.yb)) :=
  ((((h.setCell hB _).setCell hB _).setCell hB _).setCell hB _).setCell hB _
theorem set5u {W : World} {p bm sz : Nat} {ab : R.G → Option R.G} (y : R.G) (h : Uo W bm sz ab) (hne : p ≠ bm) : Uo (((((W.setCell ⟨p, 0, none⟩ (.int .i64 y.ly)).setCell ⟨p, 1, none⟩ (.int .i64 y.xa)).setCell ⟨p, 2, none⟩ (.int .i64 y.ya)).setCell ⟨p, 3, none⟩ (.int .i64 y.xb)).setCell ⟨p, 4, none⟩ (.int .i64 y.yb)) bm sz ab := by
  refine ⟨h.1.keep ?_, h.2⟩
  have hn : bm ≠ p := fun e => hne e.symm
  rw [Below.heap_setCell _ _ _ _ (by simpa using hn), Below.heap_setCell _ _ _ _ (by simpa using hn), Below.heap_setCell _ _ _ _ (by simpa using hn), Below.heap_setCell _ _ _ _ (by simpa using hn), Below.heap_setCell _ _ _ _ (by simpa using hn)]
/-- While the chief is looked for. -/
structure Cf (w W : World) (bm sz : Nat) (ab : R.G → Option R.G) (ch : R.G → R.G) (p2 p3 p4 : Nat) (x y : R.G) : Prop where
  u : Uo W bm sz ab
  b2 : Blk W p2 #[.map (some bm)] 102
  b3 : Blk W p3 #[.int .i64 y.ly, .int .i64 y.xa, .int .i64 y.ya, .int .i64 y.xb, .int .i64 y.yb] 68
  b4 : Blk W p4 #[.int .i64 0, .int .i64 0, .int .i64 0, .int .i64 0, .int .i64 0] 68
  be : Below w.heap.size w W
  q : ch y = ch x
  ok : y.b64
theorem Cf.alloc {w W : World} {bm sz : Nat} {ab : R.G → Option R.G} {ch : R.G → R.G} {p2 p3 p4 : Nat} {x y : R.G} (h : Cf w W bm sz ab ch p2 p3 p4 x y) (o : Obj) : Cf w (W.alloc o) bm sz ab ch p2 p3 p4 x y :=
  ⟨h.u.later ((Below.refl _ _).alloc (Nat.le_refl _) _), h.b2.alloc _, h.b3.alloc _, h.b4.alloc _, box_stay h.be _, h.q, h.ok⟩
theorem Cf.set {w W : World} {bm sz : Nat} {ab : R.G → Option R.G} {ch : R.G → R.G} {p2 p3 p4 : Nat} {x y z : R.G} (h : Cf w W bm sz ab ch p2 p3 p4 x y) (h23 : p2 ≠ p3) (h43 : p4 ≠ p3) (hm : p3 ≠ bm) (hw : w.heap.size ≤ p3) (hq : ch z = ch x) (hz : z.b64) : Cf w (((((W.setCell ⟨p3, 0, none⟩ (.int .i64 z.ly)).setCell ⟨p3, 1, none⟩ (.int .i64 z.xa)).setCell ⟨p3, 2, none⟩ (.int .i64 z.ya)).setCell ⟨p3, 3, none⟩ (.int .i64 z.xb)).setCell ⟨p3, 4, none⟩ (.int .i64 z.yb)) bm sz ab ch p2 p3 p4 x z :=
  ⟨set5u z h.u hm, set5o z h.b2 h23, set5 z h.b3, set5o z h.b4 h43, set5b z h.be hw, hq, hz⟩
set_option maxRecDepth 20000 in
set_option maxHeartbeats 6400000 in
theorem chiefOf_any {w : World} {bm sz : Nat} {ab : R.G → Option R.G} {ch : R.G → R.G} {d : R.G → Nat} (hF : Nw.Fo ab ch d) (hU : Uo w bm sz ab) {x : R.G} (hx : x.b64) :
    Calls Try.prog 101 #[.agg #[.map (some bm)], .agg #[.int .i64 x.ly, .int .i64 x.xa, .int .i64 x.ya, .int .i64 x.xb, .int .i64 x.yb]] w fun e w' => e = .returned (rval (ch x)) ∧ Below w.heap.size w w' := by
  have HF : Hid (Nw.Fo ab ch d) := hF
  have hbm : bm < w.heap.size := hU.1.lt
  have hne : Nonempty R.G := ⟨R.zsp⟩
  obtain ⟨p2, h2⟩ : ∃ p, p = w.heap.size := ⟨_, rfl⟩
  obtain ⟨p3, h3⟩ : ∃ p, p = w.heap.size + 1 := ⟨_, rfl⟩
  obtain ⟨p4, h4⟩ : ∃ p, p = w.heap.size + 1 + 1 := ⟨_, rfl⟩
  obtain ⟨w1, hw1⟩ : ∃ W, W = ((w.alloc (.cells #[.map (some bm)] 102)).alloc (.cells #[.int .i64 x.ly, .int .i64 x.xa, .int .i64 x.ya, .int .i64 x.xb, .int .i64 x.yb] 68)).alloc (.cells #[.int .i64 0, .int .i64 0, .int .i64 0, .int .i64 0, .int .i64 0] 68) := ⟨_, rfl⟩
  have HC : Hid (Cf w w1 bm sz ab ch p2 p3 p4 x x) := by
    rw [hw1]
    have e1 : Below w.heap.size w (((w.alloc (.cells #[.map (some bm)] 102)).alloc (.cells #[.int .i64 x.ly, .int .i64 x.xa, .int .i64 x.ya, .int .i64 x.xb, .int .i64 x.yb] 68)).alloc (.cells #[.int .i64 0, .int .i64 0, .int .i64 0, .int .i64 0, .int .i64 0] 68)) := box_stay (box_stay (box_stay (Below.refl _ _) _) _) _
    exact ⟨hU.later e1, ((Blk.new h2).alloc _).alloc _, (Blk.new (by rw [h3]; simp)).alloc _, Blk.new (by rw [h4]; simp), e1, rfl, hx⟩
  have HP : Hid (p2 ≠ p3 ∧ p4 ≠ p3 ∧ p3 ≠ bm ∧ w.heap.size ≤ p3 ∧ w.heap.size ≤ p4) := ⟨by omega, by omega, by omega, by omega, by omega⟩
  have HW1 : Hid (p2 = w.heap.size ∧ p3 = w.heap.size + 1 ∧ p4 = w.heap.size + 1 + 1 ∧ w1 = ((w.alloc (.cells #[.map (some bm)] 102)).alloc (.cells #[.int .i64 x.ly, .int .i64 x.xa, .int .i64 x.ya, .int .i64 x.xb, .int .i64 x.yb] 68)).alloc (.cells #[.int .i64 0, .int .i64 0, .int .i64 0, .int .i64 0, .int .i64 0] 68)) := ⟨h2, h3, h4, hw1⟩
  clear hU hx hbm h2 h3 h4 hw1 hF
  go_enter Try.func101, Try.ntmps101
  go_upto_region 1 with fail
  rw [← HW1.out.2.2.2, ← HW1.out.2.2.1, ← HW1.out.2.1, ← HW1.out.1]
  clear HW1
  go_loopw [5] (fun s5 wr => ∃ y, Hid (Cf w wr bm sz ab ch p2 p3 p4 x y)) (fun _ wr => d (Classical.epsilon fun z => Blk wr p3 #[.int .i64 z.ly, .int .i64 z.xa, .int .i64 z.ya, .int .i64 z.xb, .int .i64 z.yb] 68))
  case atStart => exact ⟨x, HC⟩
  case round =>
    obtain ⟨y, HY⟩ := hrel
    have heps : (Classical.epsilon fun z => Blk wr p3 #[.int .i64 z.ly, .int .i64 z.xa, .int .i64 z.ya, .int .i64 z.xb, .int .i64 z.yb] 68) = y := rblk_inj (Classical.epsilon_spec (p := fun z => Blk wr p3 #[.int .i64 z.ly, .int .i64 z.xa, .int .i64 z.ya, .int .i64 z.xb, .int .i64 z.yb] 68) ⟨y, HY.out.b3⟩) HY.out.b3
    rw [heps]
    clear heps
    have c0 := HY.out.b2.cell (j := 0) rfl
    have d0 := HY.out.b3.cell (j := 0) rfl
    have d1 := HY.out.b3.cell (j := 1) rfl
    have d2 := HY.out.b3.cell (j := 2) rfl
    have d3 := HY.out.b3.cell (j := 3) rfl
    have d4 := HY.out.b3.cell (j := 4) rfl
    cases hm : ab y with
    | none =>
      have HQ : Hid (ab y = none) := hm
      have HE : Hid (y = ch x) := by show y = ch x; rw [← HY.out.q]; exact (HF.out.top y hm).symm
      clear hm
      go_upto_region 2 with (first | (at_lookup; refine look_none okRR HY.out.u.1 rfl (.tmp 9) (.tmp 10) rfl y HY.out.ok (by simp [Act.eval]) (by simp [Act.eval, rval]) HQ.out ?_; simp only [rval, R.zsp]) | fail)
      obtain ⟨wb, hwb⟩ : ∃ W, W = wr.alloc (.cells #[.int .i64 0, .int .i64 0, .int .i64 0, .int .i64 0, .int .i64 0] 68) := ⟨_, rfl⟩
      have HB : Hid (Cf w wb bm sz ab ch p2 p3 p4 x y) := by rw [hwb]; exact HY.out.alloc _
      rw [← hwb]
      clear hwb c0 d0 d1 d2 d3 d4
      have d0 := HB.out.b3.cell (j := 0) rfl
      have d1 := HB.out.b3.cell (j := 1) rfl
      have d2 := HB.out.b3.cell (j := 2) rfl
      have d3 := HB.out.b3.cell (j := 3) rfl
      have d4 := HB.out.b3.cell (j := 4) rfl
      have e0 := HB.out.b4.cell (j := 0) rfl
      have e1 := HB.out.b4.cell (j := 1) rfl
      have e2 := HB.out.b4.cell (j := 2) rfl
      have e3 := HB.out.b4.cell (j := 3) rfl
      have e4 := HB.out.b4.cell (j := 4) rfl
      have ef : ∀ j, wb.frozen? ⟨p4, j, none⟩ = false := fun j => HB.out.b4.frozen j
      obtain ⟨wz, hwz⟩ : ∃ W, W = (((((wb.setCell ⟨p4, 0, none⟩ (.int .i64 y.ly)).setCell ⟨p4, 1, none⟩ (.int .i64 y.xa)).setCell ⟨p4, 2, none⟩ (.int .i64 y.ya)).setCell ⟨p4, 3, none⟩ (.int .i64 y.xb)).setCell ⟨p4, 4, none⟩ (.int .i64 y.yb)) := ⟨_, rfl⟩
      have HZ : Hid (Blk wz p4 #[.int .i64 y.ly, .int .i64 y.xa, .int .i64 y.ya, .int .i64 y.xb, .int .i64 y.yb] 68 ∧ Below w.heap.size w wz ∧ wz = (((((wb.setCell ⟨p4, 0, none⟩ (.int .i64 y.ly)).setCell ⟨p4, 1, none⟩ (.int .i64 y.xa)).setCell ⟨p4, 2, none⟩ (.int .i64 y.ya)).setCell ⟨p4, 3, none⟩ (.int .i64 y.xb)).setCell ⟨p4, 4, none⟩ (.int .i64 y.yb))) := by
        refine ⟨?_, ?_, hwz⟩
        · rw [hwz]; exact set5 y (x := R.zsp) HB.out.b4
        · rw [hwz]; exact set5b y HB.out.be HP.out.2.2.2.2
      clear hwz
      go_wp2_with fail
      rw [← HZ.out.2.2]
      have f0 := HZ.out.1.cell (j := 0) rfl
      have f1 := HZ.out.1.cell (j := 1) rfl
      have f2 := HZ.out.1.cell (j := 2) rfl
      have f3 := HZ.out.1.cell (j := 3) rfl
      have f4 := HZ.out.1.cell (j := 4) rfl
      refine bodyPost_ret (v := rval y) (by simp [results, Try.results101, go_sem, rval, f0, f1, f2, f3, f4]) rfl ⟨by rw [HE.out], HZ.out.2.1⟩
    | some z =>
      have HQ : Hid (ab y = some z) := hm
      have HU : Hid (ch z = ch y ∧ d z < d y) := HF.out.up y z hm
      have HO : Hid (z.b64) := HY.out.u.2 y z hm
      clear hm
      go_upto_region 2 with (first | (at_lookup; refine look_some okRR HY.out.u.1 rfl (.tmp 9) (.tmp 10) rfl y HY.out.ok (by simp [Act.eval]) (by simp [Act.eval, rval]) z HQ.out ?_; simp only [rval, R.zsp]) | fail)
      obtain ⟨wb, hwb⟩ : ∃ W, W = wr.alloc (.cells #[.int .i64 z.ly, .int .i64 z.xa, .int .i64 z.ya, .int .i64 z.xb, .int .i64 z.yb] 68) := ⟨_, rfl⟩
      have HB : Hid (Cf w wb bm sz ab ch p2 p3 p4 x y ∧ wr.heap.size < wb.heap.size) := ⟨by rw [hwb]; exact HY.out.alloc _, by rw [hwb]; simp⟩
      have B5 : Blk wb wr.heap.size #[.int .i64 z.ly, .int .i64 z.xa, .int .i64 z.ya, .int .i64 z.xb, .int .i64 z.yb] 68 := by rw [hwb]; exact Blk.new rfl
      rw [← hwb]
      clear hwb c0 d0 d1 d2 d3 d4
      obtain ⟨p5, hp5⟩ : ∃ p, p = wr.heap.size := ⟨_, rfl⟩
      rw [← hp5] at B5
      try simp only [← hp5]
      clear hp5
      have d0 := B5.cell (j := 0) rfl
      have d1 := B5.cell (j := 1) rfl
      have d2 := B5.cell (j := 2) rfl
      have d3 := B5.cell (j := 3) rfl
      have d4 := B5.cell (j := 4) rfl
      have e0 := HB.out.1.b3.cell (j := 0) rfl
      have e1 := HB.out.1.b3.cell (j := 1) rfl
      have e2 := HB.out.1.b3.cell (j := 2) rfl
      have e3 := HB.out.1.b3.cell (j := 3) rfl
      have e4 := HB.out.1.b3.cell (j := 4) rfl
      have ef : ∀ j, wb.frozen? ⟨p3, j, none⟩ = false := fun j => HB.out.1.b3.frozen j
      have HZ : Hid (Cf w (((((wb.setCell ⟨p3, 0, none⟩ (.int .i64 z.ly)).setCell ⟨p3, 1, none⟩ (.int .i64 z.xa)).setCell ⟨p3, 2, none⟩ (.int .i64 z.ya)).setCell ⟨p3, 3, none⟩ (.int .i64 z.xb)).setCell ⟨p3, 4, none⟩ (.int .i64 z.yb)) bm sz ab ch p2 p3 p4 x z) := HB.out.1.set HP.out.1 HP.out.2.1 HP.out.2.2.1 HP.out.2.2.2.1 (HU.out.1.trans HY.out.q) HO.out
      have heps : (Classical.epsilon fun q => Blk (((((wb.setCell ⟨p3, 0, none⟩ (.int .i64 z.ly)).setCell ⟨p3, 1, none⟩ (.int .i64 z.xa)).setCell ⟨p3, 2, none⟩ (.int .i64 z.ya)).setCell ⟨p3, 3, none⟩ (.int .i64 z.xb)).setCell ⟨p3, 4, none⟩ (.int .i64 z.yb)) p3 #[.int .i64 q.ly, .int .i64 q.xa, .int .i64 q.ya, .int .i64 q.xb, .int .i64 q.yb] 68) = z := rblk_inj (Classical.epsilon_spec (p := fun q => Blk (((((wb.setCell ⟨p3, 0, none⟩ (.int .i64 z.ly)).setCell ⟨p3, 1, none⟩ (.int .i64 z.xa)).setCell ⟨p3, 2, none⟩ (.int .i64 z.ya)).setCell ⟨p3, 3, none⟩ (.int .i64 z.xb)).setCell ⟨p3, 4, none⟩ (.int .i64 z.yb)) p3 #[.int .i64 q.ly, .int .i64 q.xa, .int .i64 q.ya, .int .i64 q.xb, .int .i64 q.yb] 68) ⟨z, HZ.out.b3⟩) HZ.out.b3
      have HEP : Hid _ := heps
      clear heps B5
      go_wp2
      go_roundw
      case rel => exact ⟨z, HZ⟩
      case measure => rw [HEP.out]; exact HU.out.2
end Go.Proofs.Ytclnmikneomccaa
