/- The numbers of the nets, by the program: contracts. -/
import Derived.Test.YtclnmikneomccaaJn
import Derived.Test.YtclnmikneomccaaJk
import Derived.Test.YtclnmikneomccaaNu
namespace Go.Proofs.Ytclnmikneomccaa
open Go.RowKit Go.Maps
set_option linter.unusedVariables false
set_option linter.unusedSimpArgs false
theorem Rok.b64 {r : R.G} (h : Rok r) : r.b64 := by
  have h1 := h.l0
  have h2 := h.l9
  have h3 := h.x
  have h4 := h.y
  have h5 := h.x0
  have h6 := h.y0
  have h7 := h.x1
  have h8 := h.y1
  unfold R.G.b64
  omega
/-- The chiefs of a list, built by append. -/
def Chs (W : World) (lo : Nat) (v : Value) (k : Nat) (ch : R.G → R.G) (S : Nat → R.G) : Prop := W.ownsRow lo 68 5 v k (flat (fun i => R.spl (ch (S i))) k)
theorem RdV.cells {w W : World} {b off n cap k : Nat} {S : Nat → R.G} (h : R.Rsp W (.slice (some ⟨b, off, none⟩) n cap) n S) (hk : k < n) : ∀ j, j < 5 → W.cell? ⟨b, off + k * 5 + j, none⟩ = some (R.scell (S k) j) := by
  obtain ⟨b2, off2, e, hc⟩ := h.at hk
  simp only [Option.some.injEq, Addr.mk.injEq] at e
  obtain ⟨rfl, rfl, _⟩ := e
  exact hc
set_option maxRecDepth 20000 in
set_option maxHeartbeats 6400000 in
theorem chiefs_any {w : World} {bm sz : Nat} {ab : R.G → Option R.G} {ch : R.G → R.G} {d : R.G → Nat} (hF : Nw.Fo ab ch d) (hU : Uo w bm sz ab) {ao : Option Addr} {n cap : Nat} {S : Nat → R.G} (h : R.Rsp w (.slice ao n cap) n S) (hok : ∀ i, i < n → (S i).b64) (hn : n ≤ 1048576) :
    Calls Try.prog 87 #[.agg #[.map (some bm)], .slice ao n cap] w fun e w' => ∃ v, e = .returned v ∧ Chs w' (w.heap.size + 1) v n ch S ∧ Below w.heap.size w w' := by
  have HF : Hid (Nw.Fo ab ch d) := hF
  have HOK : Hid (∀ i, i < n → (S i).b64) := hok
  have HA : ∀ W, Below w.heap.size w W → Hid (R.Rsp W (.slice ao n cap) n S ∧ Uo W bm sz ab) := fun W hb => ⟨h.later hb, hU.later hb⟩
  have hnI : (n : Int) ≤ 1048576 := by omega
  clear hF hU h hok
  go_enter Try.func87, Try.ntmps87
  go_wp2_with fail
  obtain ⟨w1, hw1⟩ : ∃ W, W = w.alloc (.cells #[.map (some bm)] 102) := ⟨_, rfl⟩
  obtain ⟨p2, h2⟩ : ∃ p, p = w.heap.size := ⟨_, rfl⟩
  have HP2 : Hid (w.heap.size ≤ p2 ∧ p2 + 1 = w.heap.size + 1) := ⟨by omega, by omega⟩
  have H1 : Hid (Blk w1 p2 #[.map (some bm)] 102 ∧ Below w.heap.size w w1) := by rw [hw1]; exact ⟨Blk.new h2, box_stay (Below.refl _ _) _⟩
  rw [← hw1, ← h2]
  clear hw1 h2
  go_loopw [5, 10] (fun v i wr => ∃ k : Nat, k ≤ n ∧ i = .int .i64 k ∧ Hid (Chs wr (p2 + 1) v k ch S ∧ Blk wr p2 #[.map (some bm)] 102 ∧ Below w.heap.size w wr)) (fun _ i _ => n - (intOf i).toNat)
  case atStart => exact ⟨0, Nat.zero_le _, rfl, ownsV_nil _ _ _ _, H1.out⟩
  case round =>
    obtain ⟨k, hk, rfl, HH⟩ := hrel
    by_cases hkn : k < n
    · have hkI : (k : Int) < n := by omega
      obtain ⟨b, off, hao, hc⟩ := (HA wr HH.out.2.2).out.1.at hkn
      subst hao
      obtain ⟨x, hx⟩ : ∃ x, x = S k := ⟨_, rfl⟩
      rw [← hx] at hc
      have c0 : wr.cell? ⟨b, off + k * 5, none⟩ = some (.int .i64 x.ly) := hc 0 (by omega)
      have c1 : wr.cell? ⟨b, off + k * 5 + 1, none⟩ = some (.int .i64 x.xa) := hc 1 (by omega)
      have c2 : wr.cell? ⟨b, off + k * 5 + 2, none⟩ = some (.int .i64 x.ya) := hc 2 (by omega)
      have c3 : wr.cell? ⟨b, off + k * 5 + 3, none⟩ = some (.int .i64 x.xb) := hc 3 (by omega)
      have c4 : wr.cell? ⟨b, off + k * 5 + 4, none⟩ = some (.int .i64 x.yb) := hc 4 (by omega)
      have HX : Hid (x = S k ∧ x.b64) := ⟨hx, by rw [hx]; exact HOK.out k hkn⟩
      clear hx hc
      go_upto_region 5 with fail
      obtain ⟨wb, hwb⟩ : ∃ W, W = wr.alloc (.cells #[.int .i64 x.ly, .int .i64 x.xa, .int .i64 x.ya, .int .i64 x.xb, .int .i64 x.yb] 68) := ⟨_, rfl⟩
      obtain ⟨p7, h7⟩ : ∃ p, p = wr.heap.size := ⟨_, rfl⟩
      have hbb : Below wr.heap.size wr wb := by rw [hwb]; exact (Below.refl _ _).alloc (Nat.le_refl _) _
      have HB : Hid (Chs wb (p2 + 1) u5 k ch S ∧ Blk wb p2 #[.map (some bm)] 102 ∧ Below w.heap.size w wb) := ⟨ownsV_later HH.out.1 hbb, HH.out.2.1.old hbb, HH.out.2.2.trans (hbb.mono HH.out.2.2.size)⟩
      have B7 : Blk wb p7 #[.int .i64 x.ly, .int .i64 x.xa, .int .i64 x.ya, .int .i64 x.xb, .int .i64 x.yb] 68 := by rw [hwb]; exact Blk.new h7
      rw [← hwb, ← h7]
      clear hwb h7 hbb c0 c1 c2 c3 c4
      have d0 := B7.cell (j := 0) rfl
      have d1 := B7.cell (j := 1) rfl
      have d2 := B7.cell (j := 2) rfl
      have d3 := B7.cell (j := 3) rfl
      have d4 := B7.cell (j := 4) rfl
      have e0 := HB.out.2.1.cell (j := 0) rfl
      clear B7
      go_wp2_with fail
      refine (chiefOf_any HF.out (HA wb HB.out.2.2).out.2 HX.out.2).mono ?_
      rintro e w2 ⟨rfl, hb2⟩
      obtain ⟨c, hcx⟩ : ∃ c, c = ch x := ⟨_, rfl⟩
      rw [← hcx]
      have HC : Hid (c = ch (S k)) := by show c = _; rw [hcx, HX.out.1]
      have H2 : Hid (Chs w2 (p2 + 1) u5 k ch S ∧ Blk w2 p2 #[.map (some bm)] 102 ∧ Below w.heap.size w w2) := ⟨ownsV_later HB.out.1 hb2, HB.out.2.1.old hb2, HB.out.2.2.trans (hb2.mono HB.out.2.2.size)⟩
      clear hcx hb2 d0 d1 d2 d3 d4 e0
      simp only [rval]
      go_wp2_with (first | (at_builtin; refine R.push1 rfl (.tmp 14) (.tmp 18) rfl w2 c rfl (p2 + 1) u5 k (fun i => ch (S i)) (by simp [Act.eval]) H2.out.1 1 (by simp [Act.eval]) (by omega) H2.out.2.1.lt ?_; intro v3 w3 ho3 hb3; have H3 : Hid (Chs w3 (p2 + 1) v3 (k + 1) ch S ∧ Blk w3 p2 #[.map (some bm)] 102 ∧ Below w.heap.size w w3) := ⟨by
          have e : flat (fun i => R.spl (if i = k then c else ch (S i))) (k + 1) = flat (fun i => R.spl (ch (S i))) (k + 1) := flat_congr fun i hi => by
            by_cases e : i = k
            · subst e; simp [HC.out]
            · simp [e]
          show w3.ownsRow _ _ _ _ _ _
          rw [← e]; exact ho3, (hb3.block p2 (by omega)).trans H2.out.2.1, H2.out.2.2.trans (hb3.mono (by have := HP2.out; omega))⟩; clear ho3 hb3))
      go_roundw
      case rel => exact ⟨k + 1, by omega, by simp, H3⟩
      case measure => simp [intOf]; omega
    · obtain rfl : k = n := by omega
      have HQ : Hid (Chs wr (w.heap.size + 1) u5 k ch S ∧ Below w.heap.size w wr) := ⟨by rw [← HP2.out.2]; exact HH.out.1, HH.out.2.2⟩
      clear HA
      go_wp2
      go_ret
      exact ⟨_, rfl, HQ.out⟩
set_option maxRecDepth 20000 in
set_option maxHeartbeats 6400000 in
/-- While the nets grow together. -/
structure Ns (w W : World) (bm p3 sz : Nat) (ab : R.G → Option R.G) (ch : R.G → R.G) (d : R.G → Nat) (S : Nat → R.G) (n k j : Nat) : Prop where
  un : Nw.Un S (fun a b => jn (S a) (S b)) n k j ch
  uo : Uo W bm sz ab
  fo : Nw.Fo ab ch d
  b3 : Blk W p3 #[.map (some bm)] 102
  be : Below w.heap.size w W
  szb : sz ≤ 60 * k + j
  lo : w.heap.size ≤ bm ∧ bm ≠ p3
theorem Ns.later {w W W' : World} {bm p3 sz : Nat} {ab : R.G → Option R.G} {ch : R.G → R.G} {d : R.G → Nat} {S : Nat → R.G} {n k j : Nat} (h : Ns w W bm p3 sz ab ch d S n k j) (hb : Below W.heap.size W W') : Ns w W' bm p3 sz ab ch d S n k j :=
  ⟨h.un, h.uo.later hb, h.fo, h.b3.old hb, h.be.trans (hb.mono h.be.size), h.szb, h.lo⟩
theorem Ns.alloc {w W : World} {bm p3 sz : Nat} {ab : R.G → Option R.G} {ch : R.G → R.G} {d : R.G → Nat} {S : Nat → R.G} {n k j : Nat} (h : Ns w W bm p3 sz ab ch d S n k j) (o : Obj) : Ns w (W.alloc o) bm p3 sz ab ch d S n k j := h.later ((Below.refl _ _).alloc (Nat.le_refl _) _)
set_option maxRecDepth 20000 in
set_option maxHeartbeats 6400000 in
theorem netNum_any {w : World} {ao : Option Addr} {n cap : Nat} {S : Nat → R.G} (h : R.Rsp w (.slice ao n cap) n S) (hok : ∀ i, i < n → Rok (S i)) (hn : n ≤ 60) (hcap : n ≤ cap) :
    Calls Try.prog 56 #[.slice ao n cap] w fun e w' => ∃ v X, e = .returned v ∧ Ol w' w.heap.size v (fints X n) ∧ Nw.Nets (fun a b => jn (S a) (S b)) n X ∧ Below w.heap.size w w' := by
  have HOK : Hid (∀ i, i < n → Rok (S i)) := hok
  have HA : ∀ W, Below w.heap.size w W → Hid (R.Rsp W (.slice ao n cap) n S) := fun W hb => h.later hb
  have hnI : (n : Int) ≤ 60 := by omega
  have hcI : (n : Int) ≤ cap := by omega
  have hmm := @run_makeMap Try.prog
  clear h hok
  go_enter Try.func56, Try.ntmps56
  go_wp2_with fail
  obtain ⟨w1, hw1⟩ : ∃ W, W = (w.alloc (.map #[] 0)).alloc (.cells #[.map (some w.heap.size)] 102) := ⟨_, rfl⟩
  obtain ⟨p3, h3⟩ : ∃ p, p = w.heap.size + 1 := ⟨_, rfl⟩
  obtain ⟨bm, hbm⟩ : ∃ p, p = w.heap.size := ⟨_, rfl⟩
  have HN : Hid (Ns w w1 bm p3 0 (fun _ => none) id (fun _ => 0) S n 0 0) := by
    rw [hw1]
    refine ⟨Nw.Un.start _ _ _, ⟨?_, fun x y e => by simp at e⟩, Nw.Fo.start _, by rw [hbm]; exact Blk.new (by rw [h3]; simp), box_stay (box_stay (Below.refl _ _) _) _, by omega, by omega, by omega⟩
    rw [hbm]
    exact HasM.later (HasM.made w) ((Below.refl _ _).alloc (Nat.le_refl _) _)
  rw [← hw1, ← h3, ← hbm]
  clear hw1 h3 hbm hmm
  go_loopw [12] (fun i wr => ∃ k : Nat, k ≤ n ∧ i = .int .i64 k ∧ ∃ sz ab ch d, Hid (Ns w wr bm p3 sz ab ch d S n k 0)) (fun i _ => n - (intOf i).toNat)
  case atStart => exact ⟨0, Nat.zero_le _, rfl, _, _, _, _, HN⟩
  case round =>
    obtain ⟨k, hk, rfl, sz, ab, ch, d, HH⟩ := hrel
    by_cases hkn : k < n
    · have hkI : (k : Int) < n := by omega
      have hkc : (k : Int) ≤ cap := by omega
      obtain ⟨b, off, hao, hc⟩ := (HA wr HH.out.be).out.at hkn
      subst hao
      obtain ⟨x, hx⟩ : ∃ x, x = S k := ⟨_, rfl⟩
      rw [← hx] at hc
      have c0 : wr.cell? ⟨b, off + k * 5, none⟩ = some (.int .i64 x.ly) := hc 0 (by omega)
      have c1 : wr.cell? ⟨b, off + k * 5 + 1, none⟩ = some (.int .i64 x.xa) := hc 1 (by omega)
      have c2 : wr.cell? ⟨b, off + k * 5 + 2, none⟩ = some (.int .i64 x.ya) := hc 2 (by omega)
      have c3 : wr.cell? ⟨b, off + k * 5 + 3, none⟩ = some (.int .i64 x.xb) := hc 3 (by omega)
      have c4 : wr.cell? ⟨b, off + k * 5 + 4, none⟩ = some (.int .i64 x.yb) := hc 4 (by omega)
      have HX : Hid (x = S k ∧ Rok x) := ⟨hx, by rw [hx]; exact HOK.out k hkn⟩
      clear hx hc
      go_upto_region 5 with fail
      obtain ⟨wb, hwb⟩ : ∃ W, W = wr.alloc (.cells #[.int .i64 x.ly, .int .i64 x.xa, .int .i64 x.ya, .int .i64 x.xb, .int .i64 x.yb] 68) := ⟨_, rfl⟩
      obtain ⟨p5, h5⟩ : ∃ p, p = wr.heap.size := ⟨_, rfl⟩
      have HB : Hid (Ns w wb bm p3 sz ab ch d S n k 0 ∧ Blk wb p5 #[.int .i64 x.ly, .int .i64 x.xa, .int .i64 x.ya, .int .i64 x.xb, .int .i64 x.yb] 68 ∧ bm ≠ p5) := ⟨by rw [hwb]; exact HH.out.alloc _, by rw [hwb]; exact Blk.new h5, by have := HH.out.uo.1.lt; omega⟩
      rw [← hwb, ← h5]
      clear hwb h5 c0 c1 c2 c3 c4
      go_wp2_with fail
      go_loopw [21] (fun i wq => ∃ j : Nat, j ≤ k ∧ i = .int .i64 j ∧ ∃ sz ab ch d, Hid (Ns w wq bm p3 sz ab ch d S n k j ∧ Blk wq p5 #[.int .i64 x.ly, .int .i64 x.xa, .int .i64 x.ya, .int .i64 x.xb, .int .i64 x.yb] 68)) (fun i _ => k - (intOf i).toNat)
      case atStart => exact ⟨0, Nat.zero_le _, rfl, sz, ab, ch, d, HB.out.1, HB.out.2.1⟩
      case round =>
        clear HH
        obtain ⟨j, hj, rfl, sz, ab, ch, d, HH⟩ := hrel
        by_cases hjk : j < k
        · have hjI : (j : Int) < k := by omega
          have hc := RdV.cells (w := w) (HA wr HH.out.1.be).out (show j < n by omega)
          obtain ⟨y, hy⟩ : ∃ y, y = S j := ⟨_, rfl⟩
          rw [← hy] at hc
          have c0 : wr.cell? ⟨b, off + j * 5, none⟩ = some (.int .i64 y.ly) := hc 0 (by omega)
          have c1 : wr.cell? ⟨b, off + j * 5 + 1, none⟩ = some (.int .i64 y.xa) := hc 1 (by omega)
          have c2 : wr.cell? ⟨b, off + j * 5 + 2, none⟩ = some (.int .i64 y.ya) := hc 2 (by omega)
          have c3 : wr.cell? ⟨b, off + j * 5 + 3, none⟩ = some (.int .i64 y.xb) := hc 3 (by omega)
          have c4 : wr.cell? ⟨b, off + j * 5 + 4, none⟩ = some (.int .i64 y.yb) := hc 4 (by omega)
          have HY : Hid (y = S j ∧ Rok y) := ⟨hy, by rw [hy]; exact HOK.out j (by omega)⟩
          clear hy hc
          go_upto_region 8 with fail
          obtain ⟨wc, hwc⟩ : ∃ W, W = wr.alloc (.cells #[.int .i64 y.ly, .int .i64 y.xa, .int .i64 y.ya, .int .i64 y.xb, .int .i64 y.yb] 68) := ⟨_, rfl⟩
          obtain ⟨p7, h7⟩ : ∃ p, p = wr.heap.size := ⟨_, rfl⟩
          have HC : Hid (Ns w wc bm p3 sz ab ch d S n k j ∧ Blk wc p5 #[.int .i64 x.ly, .int .i64 x.xa, .int .i64 x.ya, .int .i64 x.xb, .int .i64 x.yb] 68 ∧ Blk wc p7 #[.int .i64 y.ly, .int .i64 y.xa, .int .i64 y.ya, .int .i64 y.xb, .int .i64 y.yb] 68 ∧ bm ≠ p7) := ⟨by rw [hwc]; exact HH.out.1.alloc _, by rw [hwc]; exact HH.out.2.alloc _, by rw [hwc]; exact Blk.new h7, by have := HH.out.1.uo.1.lt; omega⟩
          rw [← hwc, ← h7]
          clear hwc h7 c0 c1 c2 c3 c4
          have d0 := HC.out.2.1.cell (j := 0) rfl
          have d1 := HC.out.2.1.cell (j := 1) rfl
          have d2 := HC.out.2.1.cell (j := 2) rfl
          have d3 := HC.out.2.1.cell (j := 3) rfl
          have d4 := HC.out.2.1.cell (j := 4) rfl
          have e0 := HC.out.2.2.1.cell (j := 0) rfl
          have e1 := HC.out.2.2.1.cell (j := 1) rfl
          have e2 := HC.out.2.2.1.cell (j := 2) rfl
          have e3 := HC.out.2.2.1.cell (j := 3) rfl
          have e4 := HC.out.2.2.1.cell (j := 4) rfl
          obtain ⟨t, ht⟩ : ∃ t : Bool, (t = true ↔ jn x y) := by
            by_cases h : jn x y
            · exact ⟨true, by simp [h]⟩
            · exact ⟨false, by simp [h]⟩
          have HT : Hid (t = true ↔ jn x y) := ht
          clear ht
          go_wp2_with fail
          refine (iJoined_any HX.out.2 HY.out.2 t HT.out _).mono ?_
          rintro e w2 ⟨rfl, hb2⟩
          have HD : Hid (Ns w w2 bm p3 sz ab ch d S n k j ∧ Blk w2 p5 #[.int .i64 x.ly, .int .i64 x.xa, .int .i64 x.ya, .int .i64 x.xb, .int .i64 x.yb] 68 ∧ Blk w2 p7 #[.int .i64 y.ly, .int .i64 y.xa, .int .i64 y.ya, .int .i64 y.xb, .int .i64 y.yb] 68) := ⟨HC.out.1.later hb2, HC.out.2.1.old hb2, HC.out.2.2.1.old hb2⟩
          clear hb2 d0 d1 d2 d3 d4 e0 e1 e2 e3 e4
          cases t with
          | false =>
            have HE : Hid (¬ jn (S k) (S j)) := by
              intro h
              rw [← HX.out.1, ← HY.out.1] at h
              have := HT.out.2 h
              cases this
            go_wp2
            go_roundw
            case rel => exact ⟨j + 1, by omega, by simp, sz, ab, ch, d, { HD.out.1 with un := HD.out.1.un.pass fun h => absurd h HE.out, szb := by have := HD.out.1.szb; omega }, HD.out.2.1⟩
            case measure => simp [intOf]; omega
          | true =>
            have HE : Hid (jn (S k) (S j)) := by
              have := HT.out.1 rfl
              rw [HX.out.1, HY.out.1] at this
              exact this
            have hszb : sz ≤ 1000000 := by have := HD.out.1.szb; omega
            have d0 := HD.out.2.1.cell (j := 0) rfl
            have d1 := HD.out.2.1.cell (j := 1) rfl
            have d2 := HD.out.2.1.cell (j := 2) rfl
            have d3 := HD.out.2.1.cell (j := 3) rfl
            have d4 := HD.out.2.1.cell (j := 4) rfl
            have e0 := HD.out.2.2.cell (j := 0) rfl
            have e1 := HD.out.2.2.cell (j := 1) rfl
            have e2 := HD.out.2.2.cell (j := 2) rfl
            have e3 := HD.out.2.2.cell (j := 3) rfl
            have e4 := HD.out.2.2.cell (j := 4) rfl
            have g0 := HD.out.1.b3.cell (j := 0) rfl
            go_wp2_with fail
            refine (join_any HD.out.1.fo HD.out.1.uo HY.out.2.b64 HX.out.2.b64 hszb).mono ?_
            rintro e w3 ⟨rfl, hj3, hon⟩
            have HF : Hid (∃ sz ab ch d, Ns w w3 bm p3 sz ab ch d S n k (j + 1) ∧ Blk w3 p5 #[.int .i64 x.ly, .int .i64 x.xa, .int .i64 x.ya, .int .i64 x.xb, .int .i64 x.yb] 68) := by
              obtain ⟨sz', ab', ch', d', q1, q2, q3, q4⟩ := hj3
              refine ⟨sz', ab', ch', d', ⟨?_, q2, q3, hon.blk HD.out.1.b3 (fun e => HD.out.1.lo.2 e.symm), HD.out.1.be.trans (hon.low HD.out.1.lo.1 HD.out.1.be.size), by have := HD.out.1.szb; omega, HD.out.1.lo⟩, hon.blk HD.out.2.1 (fun e => HB.out.2.2 e.symm)⟩
              have hu := HD.out.1.un.join hkn (by omega) HE.out (fun a b ha hb hab => by show jn (S a) (S b); rw [hab]; exact jn_self (HOK.out b hb)) rfl rfl
              obtain ⟨f0, hu0, hf0⟩ : ∃ f0, Nw.Un S (fun a b => jn (S a) (S b)) n k (j + 1) f0 ∧ ∀ z, (ch z = ch (S k) → f0 z = ch (S j)) ∧ (ch z ≠ ch (S k) → f0 z = ch z) := ⟨_, hu, fun z => ⟨fun e => if_pos e, fun e => if_neg e⟩⟩
              have he : ch' = f0 := funext fun z => by
                by_cases hz : ch z = ch (S k)
                · rw [(hf0 z).1 hz, (q4 z).1 (by rw [hz, HX.out.1]), HY.out.1]
                · rw [(hf0 z).2 hz, (q4 z).2 (by rw [HX.out.1]; exact hz)]
              rw [he]
              exact hu0
            clear hj3 hon d0 d1 d2 d3 d4 e0 e1 e2 e3 e4 g0
            go_wp2
            go_roundw
            case rel =>
              obtain ⟨sz', ab', ch', d', q⟩ := HF.out
              exact ⟨j + 1, by omega, by simp, sz', ab', ch', d', q⟩
            case measure => simp [intOf]; omega
        · obtain rfl : j = k := by omega
          have HF : Hid (Ns w wr bm p3 sz ab ch d S n (j + 1) 0) := { HH.out.1 with un := HH.out.1.un.next, szb := by have := HH.out.1.szb; omega }
          clear HB
          go_wp2
          go_roundw
          case rel => exact ⟨j + 1, by omega, by simp, sz, ab, ch, d, HF⟩
          case measure => simp [intOf]; omega
    · obtain rfl : k = n := by omega
      have g0 := HH.out.b3.cell (j := 0) rfl
      go_wp2_with fail
      refine (chiefs_any HH.out.fo HH.out.uo (HA wr HH.out.be).out (fun i hi => (HOK.out i hi).b64) (by omega)).mono ?_
      rintro e w2 ⟨v, rfl, hc2, hb2⟩
      have hrd : R.Rsp w2 v k (fun i => ch (S i)) := by
        rcases R.OwJ.of hc2 (Nat.le_refl _) with ⟨e, ao, cp, e2⟩ | ⟨g, cp, e2, _, _, hs⟩
        · exact Or.inl ⟨ao, cp, e2, e⟩
        · rw [e2]; exact hs.rd
      have HR : Hid (R.Rsp w2 v k (fun i => ch (S i)) ∧ Below w.heap.size w w2) := ⟨hrd, HH.out.be.trans (hb2.mono HH.out.be.size)⟩
      obtain ⟨va, vc, ev⟩ := hrd.form
      subst ev
      clear hrd hc2 hb2 g0
      go_wp2_with fail
      refine (numR_any HR.out.1 (fun i hi => (chief_top HH.out.fo HH.out.uo.2 _ (S i) (Nat.le_refl _) (HOK.out i hi).b64).2) (by omega)).mono ?_
      rintro e w3 ⟨v3, X, rfl, o1, g1, j1, b1⟩
      have HQ : Hid (Ol w3 w.heap.size v3 (fints X k) ∧ Nw.Nets (fun a b => jn (S a) (S b)) k X ∧ Below w.heap.size w w3) := ⟨o1.low HR.out.2.size, Nw.nets_of g1 (HH.out.un.cn (fun a b => jn_symm) (fun a b ha hb hab => by show jn (S a) (S b); rw [hab]; exact jn_self (HOK.out b hb))) j1, HR.out.2.trans (b1.mono HR.out.2.size)⟩
      clear o1 g1 j1 b1 HA
      go_wp2
      go_ret
      exact ⟨_, X, rfl, HQ.out⟩
end Go.Proofs.Ytclnmikneomccaa
