/- FlawsOf, by the specification: a contract. -/
import Derived.Test.YtclnmikneomccaaFi
import Derived.Test.YtclnmikneomccaaSn
namespace Go.Proofs.Ytclnmikneomccaa
open Go.RowKit Go.Maps
set_option linter.unusedVariables false
set_option linter.unusedSimpArgs false
set_option maxRecDepth 20000 in
set_option maxHeartbeats 6400000 in
theorem sIn_any (n lo hi : Int) (w : World) : Calls Try.prog 61 #[.int .i64 n, .int .i64 lo, .int .i64 hi] w fun e w' => e = .returned (.bool (Mt.inR n lo hi)) ∧ w = w' := by
  by_cases h : lo ≤ n
  · by_cases h2 : n ≤ hi
    · have hs : Hid (Mt.inR n lo hi = true) := by show _ = _; unfold Mt.inR; simp [h, h2]
      go_enter Try.func61, Try.ntmps61
      go_wp2
      go_ret
      refine ⟨?_, rfl⟩
      rw [hs.out]
      first | rfl | simp [h, h2]
    · have hs : Hid (Mt.inR n lo hi = false) := by show _ = _; unfold Mt.inR; simp [h, h2]
      go_enter Try.func61, Try.ntmps61
      go_wp2
      go_ret
      refine ⟨?_, rfl⟩
      rw [hs.out]
      first | rfl | simp [h, h2]
  · have hs : Hid (Mt.inR n lo hi = false) := by show _ = _; unfold Mt.inR; simp [h]
    go_enter Try.func61, Try.ntmps61
    go_wp2
    go_ret
    refine ⟨?_, rfl⟩
    rw [hs.out]
    first | rfl | simp [h]
theorem pushW2 {ops : Array Oper} {rest : List Oper} {o : Oper} {a : Act} {Q : Exit → Act → World → Prop} (hgd : o.guard = none) (s x : Operand)
    (ho : o.op = .call { callee := .builtin .append, args := #[s, x], argTypes := #[43, 43] }) (w : World) (g : Fw.G) (lo : Nat) (v : Value) (L : List Fw.G) (hs : a.eval s = v) (hown : Wl w lo v L) (c : Nat) (hx : a.eval x = .slice (some ⟨w.heap.size, 0, none⟩) 1 c) (hk : L.length ≤ 1000000000) (hbase : lo ≤ w.heap.size)
    (h : ∀ v' w', Wl w' lo v' (L ++ [g]) → Below lo w w' → (∀ p cs t, t ≠ 81 → Blk w p cs t → Blk w' p cs t) → wpList Try.prog ops Q rest (a.put o.dst v') w') :
    wpList Try.prog ops Q (o :: rest) a (w.alloc (.cells #[.int .i64 g.kd, .int .i64 g.pi, .int .i64 g.pj] 81)) := by
  refine pushV hgd s x 43 ho 81 _ 3 24 Try.underlying43 Fw.infoE rfl (by decide) (by decide) w (Fw.spl g) rfl (by intro u hu; simp [Fw.spl] at hu; rcases hu with rfl | rfl | rfl <;> rfl) lo v L.length _ hs hown c hx (by omega) hbase fun v' w' r1 r2 _ => h v' w' ?_ ?_ ?_
  · show w'.ownsRow lo 81 3 v' (L ++ [g]).length (flaws (L ++ [g]))
    rw [flaws_app, List.length_append]
    exact r1
  · exact ((Below.refl lo w).alloc hbase _).grown r2 (by simp; omega) fun b hb => (hown.lt b hb).1
  · intro p cs t ht hp
    have hlt := hp.lt
    have hp2 : Blk (w.alloc (.cells #[.int .i64 g.kd, .int .i64 g.pi, .int .i64 g.pj] 81)) p cs t := hp.alloc _
    refine (r2.block p (by simp; omega) ?_).trans hp2
    obtain ⟨_, ⟨e, _⟩ | ⟨g1, cap, cur, hv, hg, hh, _⟩⟩ := hown
    · rw [e]; simp [Value.ownBlock]
    · rw [hv]
      intro e
      have e1 : g1 = p := by first | exact Option.some.inj e | exact (Option.some.inj e).symm | (simp [Value.ownBlock] at e; omega)
      subst e1
      rw [show w.heap[g1]? = _ from hp] at hh
      simp at hh
      exact ht hh.2
/-- While flaws are told by the specification: the list, the boxes of a rectangle and of its rule. -/
structure Inr (w3 W : World) (v : Value) (L : List Fw.G) (p10 p11 : Nat) (a : R.G) (r : U.G) : Prop where
  li : Wl W w3.heap.size v L
  ba : Blk W p10 #[.int .i64 a.ly, .int .i64 a.xa, .int .i64 a.ya, .int .i64 a.xb, .int .i64 a.yb] 68
  br : Blk W p11 #[.int .i64 r.ly, .int .i64 r.wd, .int .i64 r.sp] 77
  be : Below w3.heap.size w3 W
theorem Inr.later {w3 W W' : World} {v : Value} {L : List Fw.G} {p10 p11 : Nat} {a : R.G} {r : U.G} (h : Inr w3 W v L p10 p11 a r) (hb : Below W.heap.size W W') : Inr w3 W' v L p10 p11 a r := ⟨h.li.later hb, h.ba.old hb, h.br.old hb, h.be.trans (hb.mono h.be.size)⟩
set_option maxRecDepth 20000 in
set_option maxHeartbeats 6400000 in
theorem sFlaws_any {w : World} {ao po : Option Addr} {n cap m pc : Nat} {S : Nat → R.G} {Ru : Nat → U.G} {X : Nat → Int} (hX : IsNets S n X) (h : R.Rsp w (.slice ao n cap) n S) (hp : U.Rsp w (.slice po m pc) m Ru) (hn : n ≤ 1048576) (hm : m ≤ 1048576) :
    Calls Try.prog 27 #[.slice ao n cap, .slice po m pc] w fun e w' => ∃ v, e = .returned (.agg #[.int .i64 (fcd S n Ru m), v]) ∧ OwnW w.heap.size w'.heap.size w' (fcd S n Ru m) v (fall S X Ru m n n) ∧ Below w.heap.size w w' := by
  have HX : Hid (IsNets S n X) := hX
  have HA : ∀ W, Below w.heap.size w W → Hid (R.Rsp W (.slice ao n cap) n S ∧ U.Rsp W (.slice po m pc) m Ru) := fun W hb => ⟨h.later hb, hp.later hb⟩
  have HN : Hid (n ≤ 1048576 ∧ m ≤ 1048576) := ⟨hn, hm⟩
  clear h hp hX hn hm
  go_enter Try.func27, Try.ntmps27
  go_wp2_with fail
  obtain ⟨w1, hw1⟩ : ∃ W, W = w.alloc (.cells #[.int .i64 0, .slice none 0 0] 45) := ⟨_, rfl⟩
  obtain ⟨p4, h4⟩ : ∃ p, p = w.heap.size := ⟨_, rfl⟩
  have H1 : Hid (Blk w1 p4 #[.int .i64 0, .slice none 0 0] 45 ∧ Below w.heap.size w w1 ∧ w.heap.size ≤ p4) := by rw [hw1]; exact ⟨Blk.new h4, box_stay (Below.refl _ _) _, by omega⟩
  rw [← hw1, ← h4]
  clear hw1 h4
  refine (sRects_any (HA _ H1.out.2.1).out.1 HN.out.1).mono ?_
  rintro e w2 ⟨rfl, hbA⟩
  obtain ⟨c, hc⟩ : ∃ c, c = rcode S n := ⟨_, rfl⟩
  rw [← hc]
  have HC : Hid (c = rcode S n) := hc
  have H2 : Hid (Blk w2 p4 #[.int .i64 0, .slice none 0 0] 45 ∧ Below w.heap.size w w2) := ⟨H1.out.1.old hbA, H1.out.2.1.trans (hbA.mono H1.out.2.1.size)⟩
  clear hc hbA
  by_cases hz : c = 0
  case neg =>
    have hzb : (c != 0) = true := by simpa using hz
    have HZ : Hid (c ≠ 0) := hz
    have HPC : Hid (fcd S n Ru m = c) := by show _ = _; unfold fcd; rw [← HC.out, if_pos hz]
    clear hz
    have e0 := H2.out.1.cell (j := 0) rfl
    have e1 := H2.out.1.cell (j := 1) rfl
    have ef : ∀ j, w2.frozen? ⟨p4, j, none⟩ = false := fun j => H2.out.1.frozen j
    obtain ⟨w4, hw4⟩ : ∃ W, W = (w2.setCell ⟨p4, 0, none⟩ (.int .i64 (c))).setCell ⟨p4, 1, none⟩ (.slice none 0 0) := ⟨_, rfl⟩
    have H4 : Hid (Blk w4 p4 #[.int .i64 (c), .slice none 0 0] 45 ∧ Below w.heap.size w w4 ∧ w4 = (w2.setCell ⟨p4, 0, none⟩ (.int .i64 (c))).setCell ⟨p4, 1, none⟩ (.slice none 0 0)) := ⟨by rw [hw4]; exact (H2.out.1.set 0 _ rfl).set 1 _ rfl, by rw [hw4]; exact (H2.out.2.setCell H1.out.2.2 _).setCell H1.out.2.2 _, hw4⟩
    clear hw4
    go_wp2_with fail
    rw [← H4.out.2.2]
    have s0 := H4.out.1.cell (j := 0) rfl
    have s1 := H4.out.1.cell (j := 1) rfl
    refine bodyPost_ret (v := .agg #[.int .i64 (c), .slice none 0 0]) (by simp [results, Try.results27, go_sem, s0, s1]) rfl (by rw [HPC.out]; exact ⟨_, rfl, Or.inl ⟨HZ.out, rfl⟩, H4.out.2.1⟩)
  case pos =>
  have hzb : (c != 0) = false := by simpa using hz
  have HK := rcode_ok (S := S) (n := n) (by rw [← HC.out]; exact hz)
  have HK2 : Hid _ := HK
  have HFU : Hid (fcd S n Ru m = ucode Ru m) := by show _ = _; unfold fcd; rw [← HC.out, if_neg (by simp [hz])]
  subst hz
  by_cases hlong : 20 < m
  · have hlI : (20 : Int) < m := by omega
    have HPC : Hid (fcd S n Ru m = 2) := by show _ = _; rw [HFU.out]; unfold ucode; rw [if_pos hlong]
    clear hlong HK
    have e0 := H2.out.1.cell (j := 0) rfl
    have e1 := H2.out.1.cell (j := 1) rfl
    have ef : ∀ j, w2.frozen? ⟨p4, j, none⟩ = false := fun j => H2.out.1.frozen j
    obtain ⟨w4, hw4⟩ : ∃ W, W = (w2.setCell ⟨p4, 0, none⟩ (.int .i64 (2))).setCell ⟨p4, 1, none⟩ (.slice none 0 0) := ⟨_, rfl⟩
    have H4 : Hid (Blk w4 p4 #[.int .i64 (2), .slice none 0 0] 45 ∧ Below w.heap.size w w4 ∧ w4 = (w2.setCell ⟨p4, 0, none⟩ (.int .i64 (2))).setCell ⟨p4, 1, none⟩ (.slice none 0 0)) := ⟨by rw [hw4]; exact (H2.out.1.set 0 _ rfl).set 1 _ rfl, by rw [hw4]; exact (H2.out.2.setCell H1.out.2.2 _).setCell H1.out.2.2 _, hw4⟩
    clear hw4
    go_wp2_with fail
    rw [← H4.out.2.2]
    have s0 := H4.out.1.cell (j := 0) rfl
    have s1 := H4.out.1.cell (j := 1) rfl
    refine bodyPost_ret (v := .agg #[.int .i64 (2), .slice none 0 0]) (by simp [results, Try.results27, go_sem, s0, s1]) rfl (by rw [HPC.out]; exact ⟨_, rfl, Or.inl ⟨by decide, rfl⟩, H4.out.2.1⟩)
  have HUU : Hid (ucode Ru m = fstN (fun k => uone (Ru k)) m) := by show _ = _; unfold ucode; rw [if_neg hlong]
  have hlI : (m : Int) ≤ 20 := by omega
  have hnI : (n : Int) ≤ 60 := by have := HK.1; omega
  clear HK hlong
  go_wp2_with fail
  go_loopw [6] (fun i wr => ∃ k : Nat, k ≤ m ∧ i = .int .i64 k ∧ Hid (fstN (fun k => uone (Ru k)) k = 0 ∧ Blk wr p4 #[.int .i64 0, .slice none 0 0] 45 ∧ Below w.heap.size w wr)) (fun i _ => m - (intOf i).toNat)
  case atStart => exact ⟨0, Nat.zero_le _, rfl, rfl, H2.out⟩
  case round =>
    clear H2
    obtain ⟨k, hk, rfl, HF⟩ := hrel
    by_cases hkm : k < m
    · have hkI : (k : Int) < m := by omega
      obtain ⟨b, off, hao, hc⟩ := (HA wr HF.out.2.2).out.2.at hkm
      subst hao
      obtain ⟨r, hr⟩ : ∃ r, r = Ru k := ⟨_, rfl⟩
      rw [← hr] at hc
      have c0 : wr.cell? ⟨b, off + k * 3, none⟩ = some (.int .i64 r.ly) := hc 0 (by omega)
      have c1 : wr.cell? ⟨b, off + k * 3 + 1, none⟩ = some (.int .i64 r.wd) := hc 1 (by omega)
      have c2 : wr.cell? ⟨b, off + k * 3 + 2, none⟩ = some (.int .i64 r.sp) := hc 2 (by omega)
      have hit : Hid (∀ q : Int, q ≠ 0 → uone r = q → fcd S n Ru m = q) := fun q hq e => by
        have e' : uone (Ru k) = q := by rw [← hr]; exact e
        rw [HFU.out, HUU.out]
        exact (fstN_hit HF.out.1 (by show uone (Ru k) ≠ 0; rw [e']; exact hq) hkm).trans e'
      have pass : Hid (uone r = 0 → fstN (fun k => uone (Ru k)) (k + 1) = 0) := fun e => fstN_next HF.out.1 (by show uone (Ru k) = 0; rw [← hr]; exact e)
      clear hc hr
      cases hq1 : Mt.inR r.wd 0 1000 with
      | false =>
        have HPC : Hid (fcd S n Ru m = 3) := hit.out 3 (by decide) (by simp [uone, Mt.all, hq1])
        have HF2 : Hid (Blk wr p4 #[.int .i64 0, .slice none 0 0] 45 ∧ Below w.heap.size w wr) := HF.out.2
        go_wp2_with fail
        refine (sIn_any r.wd 0 1000 _).mono ?_
        rintro e w1 ⟨rfl, hww⟩
        obtain rfl := hww
        rw [hq1]
        clear HA
        have e0 := HF2.out.1.cell (j := 0) rfl
        have e1 := HF2.out.1.cell (j := 1) rfl
        have ef : ∀ j, wr.frozen? ⟨p4, j, none⟩ = false := fun j => HF2.out.1.frozen j
        obtain ⟨w4, hw4⟩ : ∃ W, W = (wr.setCell ⟨p4, 0, none⟩ (.int .i64 (3))).setCell ⟨p4, 1, none⟩ (.slice none 0 0) := ⟨_, rfl⟩
        have H4 : Hid (Blk w4 p4 #[.int .i64 (3), .slice none 0 0] 45 ∧ Below w.heap.size w w4 ∧ w4 = (wr.setCell ⟨p4, 0, none⟩ (.int .i64 (3))).setCell ⟨p4, 1, none⟩ (.slice none 0 0)) := ⟨by rw [hw4]; exact (HF2.out.1.set 0 _ rfl).set 1 _ rfl, by rw [hw4]; exact (HF2.out.2.setCell H1.out.2.2 _).setCell H1.out.2.2 _, hw4⟩
        clear hw4
        go_wp2_with fail
        rw [← H4.out.2.2]
        have s0 := H4.out.1.cell (j := 0) rfl
        have s1 := H4.out.1.cell (j := 1) rfl
        refine bodyPost_ret (v := .agg #[.int .i64 (3), .slice none 0 0]) (by simp [results, Try.results27, go_sem, s0, s1]) rfl (by rw [HPC.out]; exact ⟨_, rfl, Or.inl ⟨by decide, rfl⟩, H4.out.2.1⟩)
      | true =>
        cases hq2 : Mt.inR r.sp 0 1000 with
        | false =>
          have HPC : Hid (fcd S n Ru m = 3) := hit.out 3 (by decide) (by simp [uone, Mt.all, hq1, hq2])
          have HF2 : Hid (Blk wr p4 #[.int .i64 0, .slice none 0 0] 45 ∧ Below w.heap.size w wr) := HF.out.2
          go_wp2_with fail
          refine (sIn_any r.wd 0 1000 _).mono ?_
          rintro e w1 ⟨rfl, hww⟩
          obtain rfl := hww
          rw [hq1]
          go_wp2_with fail
          refine (sIn_any r.sp 0 1000 _).mono ?_
          rintro e w1 ⟨rfl, hww⟩
          obtain rfl := hww
          rw [hq2]
          clear HA
          have e0 := HF2.out.1.cell (j := 0) rfl
          have e1 := HF2.out.1.cell (j := 1) rfl
          have ef : ∀ j, wr.frozen? ⟨p4, j, none⟩ = false := fun j => HF2.out.1.frozen j
          obtain ⟨w4, hw4⟩ : ∃ W, W = (wr.setCell ⟨p4, 0, none⟩ (.int .i64 (3))).setCell ⟨p4, 1, none⟩ (.slice none 0 0) := ⟨_, rfl⟩
          have H4 : Hid (Blk w4 p4 #[.int .i64 (3), .slice none 0 0] 45 ∧ Below w.heap.size w w4 ∧ w4 = (wr.setCell ⟨p4, 0, none⟩ (.int .i64 (3))).setCell ⟨p4, 1, none⟩ (.slice none 0 0)) := ⟨by rw [hw4]; exact (HF2.out.1.set 0 _ rfl).set 1 _ rfl, by rw [hw4]; exact (HF2.out.2.setCell H1.out.2.2 _).setCell H1.out.2.2 _, hw4⟩
          clear hw4
          go_wp2_with fail
          rw [← H4.out.2.2]
          have s0 := H4.out.1.cell (j := 0) rfl
          have s1 := H4.out.1.cell (j := 1) rfl
          refine bodyPost_ret (v := .agg #[.int .i64 (3), .slice none 0 0]) (by simp [results, Try.results27, go_sem, s0, s1]) rfl (by rw [HPC.out]; exact ⟨_, rfl, Or.inl ⟨by decide, rfl⟩, H4.out.2.1⟩)
        | true =>
          have hs := pass.out (by simp [uone, Mt.all, hq1, hq2])
          have HS : Hid (fstN (fun k => uone (Ru k)) (k + 1) = 0 ∧ Blk wr p4 #[.int .i64 0, .slice none 0 0] 45 ∧ Below w.heap.size w wr) := ⟨hs, HF.out.2⟩
          clear hs
          go_wp2_with fail
          refine (sIn_any r.wd 0 1000 _).mono ?_
          rintro e w1 ⟨rfl, hww⟩
          obtain rfl := hww
          rw [hq1]
          go_wp2_with fail
          refine (sIn_any r.sp 0 1000 _).mono ?_
          rintro e w1 ⟨rfl, hww⟩
          obtain rfl := hww
          rw [hq2]
          go_wp2
          go_roundw
          case rel => exact ⟨k + 1, by omega, by simp, HS⟩
          case measure => simp [intOf]; omega
    · obtain rfl : m = k := by omega
      have HPC : Hid (fcd S n Ru m = 0) := by show _ = _; rw [HFU.out, HUU.out, HF.out.1]
      have H2 : Hid (Blk wr p4 #[.int .i64 0, .slice none 0 0] 45 ∧ Below w.heap.size w wr) := HF.out.2
      clear HF hk hkm
      go_wp2_with fail
      refine (sNum_any (HA _ H2.out.2).out.1 HK2.out.2 HK2.out.1).mono ?_
      rintro e w3 ⟨v, Y, rfl, ho, hN, hb3⟩
      have hrw : RdRow w3 v n X := by
        have h1 := rdOwnI ho
        exact h1.congr fun i hi => HX.out Y hN i hi
      obtain ⟨va, vc, ev⟩ := hrw.shape
      subst ev
      have H3 : Hid (Blk w3 p4 #[.int .i64 0, .slice none 0 0] 45 ∧ Below w.heap.size w w3) := ⟨H2.out.1.old hb3, H2.out.2.trans (hb3.mono H2.out.2.size)⟩
      have HV : ∀ W, Below w3.heap.size w3 W → Hid (RdRow W (.slice va n vc) n X ∧ Below w.heap.size w W ∧ Blk W p4 #[.int .i64 0, .slice none 0 0] 45) := fun W hb => ⟨hrw.later hb, H3.out.2.trans (hb.mono H3.out.2.size), H3.out.1.old hb⟩
      clear ho hN hb3 hrw
      go_wp2_with fail
      obtain ⟨w5, hw5⟩ : ∃ W, W = w3.alloc (.cells #[] 81) := ⟨_, rfl⟩
      have H5 : Hid (Wl w5 w3.heap.size (.slice (some ⟨w3.heap.size, 0, none⟩) 0 0) (fall S X Ru m n 0) ∧ Below w3.heap.size w3 w5) := by
        rw [hw5]
        exact ⟨ownsV_empty _ _ _, (Below.refl _ _).alloc (Nat.le_refl _) _⟩
      rw [← hw5]
      clear hw5
      go_loopw [8, 9] (fun v i wr => ∃ k : Nat, k ≤ n ∧ i = .int .i64 k ∧ Hid (Wl wr w3.heap.size v (fall S X Ru m n k) ∧ Below w3.heap.size w3 wr)) (fun _ i _ => n - (intOf i).toNat)
      case atStart => exact ⟨0, Nat.zero_le _, rfl, H5.out⟩
      case round =>
        clear H5
        obtain ⟨i, hin, rfl, HH⟩ := hrel
        by_cases hi : i < n
        · have hinI : (i : Int) < n := by omega
          obtain ⟨b, off, hao, hc⟩ := (HA wr (HV wr HH.out.2).out.2.1).out.1.at hi
          subst hao
          obtain ⟨a, ha⟩ : ∃ x, x = S i := ⟨_, rfl⟩
          rw [← ha] at hc
          have c0 : wr.cell? ⟨b, off + i * 5, none⟩ = some (.int .i64 a.ly) := hc 0 (by omega)
          have c1 : wr.cell? ⟨b, off + i * 5 + 1, none⟩ = some (.int .i64 a.xa) := hc 1 (by omega)
          have c2 : wr.cell? ⟨b, off + i * 5 + 2, none⟩ = some (.int .i64 a.ya) := hc 2 (by omega)
          have c3 : wr.cell? ⟨b, off + i * 5 + 3, none⟩ = some (.int .i64 a.xb) := hc 3 (by omega)
          have c4 : wr.cell? ⟨b, off + i * 5 + 4, none⟩ = some (.int .i64 a.yb) := hc 4 (by omega)
          have HAR : Hid (a = S i ∧ Rok a) := ⟨ha, by rw [ha]; exact HK2.out.2 i hi⟩
          have hra : Rok a := HAR.out.2
          clear ha hc
          go_upto_region 17 with fail
          obtain ⟨wz, hwz⟩ : ∃ W, W = wr.alloc (.cells #[.int .i64 a.ly, .int .i64 a.xa, .int .i64 a.ya, .int .i64 a.xb, .int .i64 a.yb] 68) := ⟨_, rfl⟩
          obtain ⟨p10, h10⟩ : ∃ p, p = wr.heap.size := ⟨_, rfl⟩
          have hbz : Below wr.heap.size wr wz := by rw [hwz]; exact (Below.refl _ _).alloc (Nat.le_refl _) _
          have HZ : Hid (Blk wz p10 #[.int .i64 a.ly, .int .i64 a.xa, .int .i64 a.ya, .int .i64 a.xb, .int .i64 a.yb] 68 ∧ Wl wz w3.heap.size u8 (fall S X Ru m n i) ∧ Below w3.heap.size w3 wz) := ⟨by rw [hwz]; exact Blk.new h10, HH.out.1.later hbz, HH.out.2.trans (hbz.mono HH.out.2.size)⟩
          rw [← hwz, ← h10]
          clear hwz h10 hbz c0 c1 c2 c3 c4 HH
          have k0 := HZ.out.1.cell (j := 0) rfl
          obtain ⟨r, hr⟩ : ∃ r, r = frl Ru m a.ly := ⟨_, rfl⟩
          have HR : Hid (r = frl Ru m a.ly) := hr
          clear hr
          go_wp2_with fail
          refine (sRule_any (HA _ (HV _ HZ.out.2.2).out.2.1).out.2 HN.out.2 a.ly).mono ?_
          rintro e wy ⟨rfl, hby⟩
          rw [← HR.out]
          have HY : Hid (Blk wy p10 #[.int .i64 a.ly, .int .i64 a.xa, .int .i64 a.ya, .int .i64 a.xb, .int .i64 a.yb] 68 ∧ Wl wy w3.heap.size u8 (fall S X Ru m n i) ∧ Below w3.heap.size w3 wy) := ⟨HZ.out.1.old hby, HZ.out.2.1.later hby, HZ.out.2.2.trans (hby.mono HZ.out.2.2.size)⟩
          clear hby HZ k0
          go_upto_region 18 with fail
          obtain ⟨wa, hwa⟩ : ∃ W, W = wy.alloc (.cells #[.int .i64 r.ly, .int .i64 r.wd, .int .i64 r.sp] 77) := ⟨_, rfl⟩
          obtain ⟨p11, h11⟩ : ∃ p, p = wy.heap.size := ⟨_, rfl⟩
          have hba : Below wy.heap.size wy wa := by rw [hwa]; exact (Below.refl _ _).alloc (Nat.le_refl _) _
          have HW : Hid (Inr w3 wa u8 (fall S X Ru m n i) p10 p11 a r) := ⟨HY.out.2.1.later hba, HY.out.1.old hba, by rw [hwa]; exact Blk.new h11, HY.out.2.2.trans (hba.mono HY.out.2.2.size)⟩
          rw [← hwa, ← h11]
          clear hwa h11 hba HY
          have k1 : ∀ xk : Kept wa.heap.size wa, xk.w.cell? ⟨p10, 1, none⟩ = some (.int .i64 a.xa) := fun xk => (HW.out.ba.old xk.h).cell rfl
          have k2 : ∀ xk : Kept wa.heap.size wa, xk.w.cell? ⟨p10, 2, none⟩ = some (.int .i64 a.ya) := fun xk => (HW.out.ba.old xk.h).cell rfl
          have k3 : ∀ xk : Kept wa.heap.size wa, xk.w.cell? ⟨p10, 3, none⟩ = some (.int .i64 a.xb) := fun xk => (HW.out.ba.old xk.h).cell rfl
          have k4 : ∀ xk : Kept wa.heap.size wa, xk.w.cell? ⟨p10, 4, none⟩ = some (.int .i64 a.yb) := fun xk => (HW.out.ba.old xk.h).cell rfl
          have n1 : ∀ xk : Kept wa.heap.size wa, xk.w.cell? ⟨p11, 1, none⟩ = some (.int .i64 r.wd) := fun xk => (HW.out.br.old xk.h).cell rfl
          have a1 := hra.x
          have a2 := hra.y
          have a3 := hra.x0
          have a4 := hra.y0
          have a5 := hra.x1
          have a6 := hra.y1
          clear hra
          obtain ⟨D1, hD1⟩ : ∃ d, d = a.xb - a.xa := ⟨_, rfl⟩
          obtain ⟨D2, hD2⟩ : ∃ d, d = a.yb - a.ya := ⟨_, rfl⟩
          have hw1 : wrap64 (a.xb - a.xa) = D1 := by rw [hD1]; unfold wrap64; omega
          have hw2 : wrap64 (a.yb - a.ya) = D2 := by rw [hD2]; unfold wrap64; omega
          obtain ⟨mn, hmn⟩ : ∃ x, x = min D1 D2 := ⟨_, rfl⟩
          have HWD : Hid (wideB a r = decide (mn < r.wd)) := (show _ = _ from by unfold wideB; rw [hmn, hD1, hD2])
          have HM : ∀ xk : Kept wa.heap.size wa, Calls Try.prog 63 #[.int .i64 D1, .int .i64 D2] xk.w fun e w' => e = .returned (.int .i64 mn) ∧ Below xk.w.heap.size xk.w w' := fun xk => by rw [hmn]; exact (sMin_any D1 D2 xk.w).mono fun e w' h => ⟨h.1, by rw [← h.2]; exact Below.refl _ _⟩
          clear hD1 hD2 hmn a1 a2 a3 a4 a5 a6
          by_cases qw : mn < r.wd
          · refine wp_region_kept wa.heap.size (by kernel_rfl) (by kernel_rfl) ?_
            intro hne
            repeat (go_big_quiet_step (first | (go_at_call 63; exact Calls.kept_of (Nat.le_refl _) (HM _))))
            refine wpQuiet_nil ?_
            rintro u ⟨xk, hxk⟩
            have hR1 := xk.h
            rw [← hxk] at hR1
            have HU : Hid (Inr w3 u u8 (fall S X Ru m n i) p10 p11 a r) := HW.out.later hR1
            clear hxk xk hne k1 k2 k3 k4 n1 HM hR1 hw1 hw2 HW
            have hlen : (fall S X Ru m n i).length ≤ 1000000 := by have h1 := fall_len (S := S) (X := X) (Ru := Ru) (m := m) (n := n) i; have h2 := Nat.mul_le_mul (show i ≤ 60 by omega) (show n + 1 ≤ 61 by omega); omega
            have HLEN : Hid ((fall S X Ru m n i).length ≤ 1000000 ∧ w3.heap.size ≤ u.heap.size) := ⟨hlen, HU.out.be.size⟩
            clear hlen
            have HBS : Hid (fbase i a r = [⟨1, i, i⟩]) := (show _ = _ from by unfold fbase; rw [HWD.out]; simp [qw])
            go_wp2_with (first | (at_builtin; refine pushW2 rfl (.tmp 80) (.tmp 84) rfl u ⟨1, i, i⟩ w3.heap.size u8 (fall S X Ru m n i) (by simp [Act.eval]) HU.out.li 1 (by simp [Act.eval]) (by have := HLEN.out.1; omega) HLEN.out.2 ?_; intro v8 w8 ho8 hb8 hk8; have HS : Hid (Inr w3 w8 v8 (fall S X Ru m n i ++ fj S X r i (i + 1)) p10 p11 a r) := ⟨by rw [fj_low _ (Nat.le_refl _), ← HAR.out.1, HBS.out]; exact ho8, hk8 _ _ _ (by decide) HU.out.ba, hk8 _ _ _ (by decide) HU.out.br, HU.out.be.trans hb8⟩; clear ho8 hb8 hk8))
            clear HU
            go_loopw [8, 12] (fun v s12 wr => ∃ k : Nat, i + 1 ≤ k ∧ k ≤ n ∧ s12 = .int .i64 k ∧ Hid (Inr w3 wr v (fall S X Ru m n i ++ fj S X r i k) p10 p11 a r)) (fun _ s12 _ => n - (intOf s12).toNat)
            case atStart => exact ⟨i + 1, Nat.le_refl _, by omega, by simp, HS⟩
            case round =>
              clear HS
              obtain ⟨k, hk0, hk, rfl, HH⟩ := hrel
              by_cases hkn : k < n
              · have hkI : (k : Int) < n := by omega
                have hc := RdV.cells (w := w) (HA _ (HV _ HH.out.be).out.2.1).out.1 hkn
                obtain ⟨y, hy⟩ : ∃ y, y = S k := ⟨_, rfl⟩
                rw [← hy] at hc
                have c0 : wr.cell? ⟨b, off + k * 5, none⟩ = some (.int .i64 y.ly) := hc 0 (by omega)
                have c1 : wr.cell? ⟨b, off + k * 5 + 1, none⟩ = some (.int .i64 y.xa) := hc 1 (by omega)
                have c2 : wr.cell? ⟨b, off + k * 5 + 2, none⟩ = some (.int .i64 y.ya) := hc 2 (by omega)
                have c3 : wr.cell? ⟨b, off + k * 5 + 3, none⟩ = some (.int .i64 y.xb) := hc 3 (by omega)
                have c4 : wr.cell? ⟨b, off + k * 5 + 4, none⟩ = some (.int .i64 y.yb) := hc 4 (by omega)
                have HYK : Hid (y = S k ∧ Rok y) := ⟨hy, by rw [hy]; exact HK2.out.2 k hkn⟩
                clear hy hc
                go_upto_region 24 with fail
                obtain ⟨wb, hwb⟩ : ∃ W, W = wr.alloc (.cells #[.int .i64 y.ly, .int .i64 y.xa, .int .i64 y.ya, .int .i64 y.xb, .int .i64 y.yb] 68) := ⟨_, rfl⟩
                obtain ⟨p13, h13⟩ : ∃ p, p = wr.heap.size := ⟨_, rfl⟩
                have hbl : Below wr.heap.size wr wb := by rw [hwb]; exact (Below.refl _ _).alloc (Nat.le_refl _) _
                have HB : Hid (Blk wb p13 #[.int .i64 y.ly, .int .i64 y.xa, .int .i64 y.ya, .int .i64 y.xb, .int .i64 y.yb] 68 ∧ Inr w3 wb u8 (fall S X Ru m n i ++ fj S X r i k) p10 p11 a r) := ⟨by rw [hwb]; exact Blk.new h13, HH.out.later hbl⟩
                rw [← hwb, ← h13]
                clear hwb h13 c0 c1 c2 c3 c4 hbl
                have e0 := HB.out.1.cell (j := 0) rfl
                have d0 := HB.out.2.ba.cell (j := 0) rfl
                have e1 := HB.out.1.cell (j := 1) rfl
                have d1 := HB.out.2.ba.cell (j := 1) rfl
                have e2 := HB.out.1.cell (j := 2) rfl
                have d2 := HB.out.2.ba.cell (j := 2) rfl
                have e3 := HB.out.1.cell (j := 3) rfl
                have d3 := HB.out.2.ba.cell (j := 3) rfl
                have e4 := HB.out.1.cell (j := 4) rfl
                have d4 := HB.out.2.ba.cell (j := 4) rfl
                obtain ⟨X1, hx⟩ : ∃ X, X = cmn a.xa a.xb y.xa y.xb := ⟨_, rfl⟩
                obtain ⟨Y1, hyy⟩ : ∃ Y, Y = cmn a.ya a.yb y.ya y.yb := ⟨_, rfl⟩
                have hbd := cmn_b HAR.out.2 HYK.out.2
                have HXY : Hid (X1 = cmn a.xa a.xb y.xa y.xb ∧ (-100000 ≤ min a.xb y.xb - max a.xa y.xa ∧ min a.xb y.xb - max a.xa y.xa ≤ 100000) ∧ Y1 = cmn a.ya a.yb y.ya y.yb ∧ (-100000 ≤ min a.yb y.yb - max a.ya y.ya ∧ min a.yb y.yb - max a.ya y.ya ≤ 100000)) := ⟨hx, by unfold cmn at hbd; omega, hyy, by unfold cmn at hbd; omega⟩
                rw [← hx, ← hyy] at hbd
                obtain ⟨hb1, hb2, hb3, hb4⟩ := hbd
                obtain ⟨gx, hgx⟩ : ∃ g, g = max 0 (-X1) := ⟨_, rfl⟩
                obtain ⟨gy, hgy⟩ : ∃ g, g = max 0 (-Y1) := ⟨_, rfl⟩
                have HG : Hid (gx = max 0 (-X1) ∧ gy = max 0 (-Y1)) := ⟨hgx, hgy⟩
                have hnx : wrap64 (-X1) = -X1 := by unfold wrap64; omega
                have hny : wrap64 (-Y1) = -Y1 := by unfold wrap64; omega
                obtain ⟨xk0, hxk0⟩ : ∃ x, x = X k := ⟨_, rfl⟩
                obtain ⟨xi0, hxi0⟩ : ∃ x, x = X i := ⟨_, rfl⟩
                have HBAD : Hid (badB S X r i k = ((y.ly == a.ly) && ((xk0 != xi0) && (decide (gx < r.sp) && decide (gy < r.sp))))) := (show _ = _ from by unfold badB nearB gapX gapY; rw [hxk0, hxi0, ← HYK.out.1, ← HAR.out.1, hgx, hgy, hx, hyy])
                have HXX : Hid (xk0 = X k ∧ xi0 = X i) := ⟨hxk0, hxi0⟩
                clear hx hyy hgx hgy hxk0 hxi0
                go_wp2_with fail
                refine (sCommon_any a.xa a.xb y.xa y.xb _ HXY.out.2.1).mono ?_
                rintro e w1 ⟨rfl, hww⟩
                obtain rfl := hww
                rw [← HXY.out.1]
                go_wp2_with fail
                refine (sMost_any 0 (-X1) _).mono ?_
                rintro e w1 ⟨rfl, hww⟩
                obtain rfl := hww
                rw [← HG.out.1]
                go_wp2_with fail
                refine (sCommon_any a.ya a.yb y.ya y.yb _ HXY.out.2.2.2).mono ?_
                rintro e w1 ⟨rfl, hww⟩
                obtain rfl := hww
                rw [← HXY.out.2.2.1]
                go_wp2_with fail
                refine (sMost_any 0 (-Y1) _).mono ?_
                rintro e w1 ⟨rfl, hww⟩
                obtain rfl := hww
                rw [← HG.out.2]
                go_upto_region 26 with fail
                clear e0 e1 e2 e3 e4 d0 d1 d2 d3 d4 hb1 hb2 hb3 hb4 hnx hny
                have K0 : ∀ xk : Kept wb.heap.size wb, xk.w.cell? ⟨p13, 0, none⟩ = some (.int .i64 y.ly) := fun xk => (HB.out.1.old xk.h).cell rfl
                have M0 : ∀ xk : Kept wb.heap.size wb, xk.w.cell? ⟨p10, 0, none⟩ = some (.int .i64 a.ly) := fun xk => (HB.out.2.ba.old xk.h).cell rfl
                have N2 : ∀ xk : Kept wb.heap.size wb, xk.w.cell? ⟨p11, 2, none⟩ = some (.int .i64 r.sp) := fun xk => (HB.out.2.br.old xk.h).cell rfl
                obtain ⟨vb, voff, hva, hvk⟩ := row_at1 (HV wb HB.out.2.be).out.1 hkn
                subst hva
                obtain ⟨vb2, voff2, hva2, hvi⟩ := row_at1 (HV wb HB.out.2.be).out.1 hi
                simp only [Option.some.injEq, Addr.mk.injEq] at hva2
                obtain ⟨rfl, rfl, _⟩ := hva2
                rw [← HXX.out.1] at hvk
                rw [← HXX.out.2] at hvi
                have V1 : ∀ xk : Kept wb.heap.size wb, xk.w.cell? ⟨vb, voff + k, none⟩ = some (.int .i64 xk0) := fun xk => kold xk.h hvk
                have V2 : ∀ xk : Kept wb.heap.size wb, xk.w.cell? ⟨vb, voff + i, none⟩ = some (.int .i64 xi0) := fun xk => kold xk.h hvi
                have hinI : (i : Int) < n := by omega
                clear hvk hvi
                by_cases q1 : y.ly = a.ly
                · have b1 : (y.ly == a.ly) = true := by simpa using q1
                  have HQ1 : Hid (y.ly = a.ly) := q1
                  clear q1
                  by_cases q2 : xk0 = xi0
                  · have b2 : (xk0 != xi0) = false := by simpa using q2
                    have b3 : (xi0 != xk0) = false := by simpa using q2.symm
                    replace q2 : Hid _ := q2
                    have HNB : Hid (badB S X r i k = false) := (show _ = _ from by rw [HBAD.out]; simp [b2])
                    refine wp_region_kept wb.heap.size (by kernel_rfl) (by kernel_rfl) ?_
                    intro hne
                    repeat (go_big_quiet_step (fail))
                    refine wpQuiet_nil ?_
                    rintro u ⟨xk, hxk⟩
                    have hR1 := xk.h
                    rw [← hxk] at hR1
                    have HU2 : Hid (Inr w3 u u8 (fall S X Ru m n i ++ fj S X r i k) p10 p11 a r) := HB.out.2.later hR1
                    clear hxk xk hne K0 M0 N2 V1 V2 hR1
                    have HF : Hid (Inr w3 u u8 (fall S X Ru m n i ++ fj S X r i (k + 1)) p10 p11 a r) := by rw [fj_no HNB.out]; exact HU2.out
                    clear HH HB HU2
                    go_wp2
                    go_roundw
                    case rel => exact ⟨k + 1, by omega, by omega, by simp, HF⟩
                    case measure => simp [intOf]; omega
                  · have b2 : (xk0 != xi0) = true := by simpa using q2
                    have b3 : (xi0 != xk0) = true := by simpa using fun e => q2 e.symm
                    replace q2 : Hid _ := q2
                    by_cases g1 : gx < r.sp
                    · by_cases g2 : gy < r.sp
                      · have HYB : Hid (badB S X r i k = true) := (show _ = _ from by rw [HBAD.out]; simp [b1, b2, g1, g2])
                        refine wp_region_kept wb.heap.size (by kernel_rfl) (by kernel_rfl) ?_
                        intro hne
                        repeat (go_big_quiet_step (fail))
                        refine wpQuiet_nil ?_
                        rintro u ⟨xk, hxk⟩
                        have hR1 := xk.h
                        rw [← hxk] at hR1
                        have HU2 : Hid (Inr w3 u u8 (fall S X Ru m n i ++ fj S X r i k) p10 p11 a r) := HB.out.2.later hR1
                        clear hxk xk hne K0 M0 N2 V1 V2 hR1
                        have hlen2 : (fall S X Ru m n i ++ fj S X r i k).length ≤ 1000000000 := by have := fj_len (S := S) (X := X) (r := r) (i := i) k; have := HLEN.out.1; rw [List.length_append]; omega
                        have HLEN2 : Hid ((fall S X Ru m n i ++ fj S X r i k).length ≤ 1000000000 ∧ w3.heap.size ≤ u.heap.size) := ⟨hlen2, HU2.out.be.size⟩
                        clear hlen2 HH HB
                        go_wp2_with (first | (at_builtin; refine pushW2 rfl (.tmp 148) (.tmp 152) rfl u ⟨2, i, k⟩ w3.heap.size u8 (fall S X Ru m n i ++ fj S X r i k) (by simp [Act.eval]) HU2.out.li 1 (by simp [Act.eval]) HLEN2.out.1 HLEN2.out.2 ?_; intro v8 w8 ho8 hb8 hk8; have HF : Hid (Inr w3 w8 v8 (fall S X Ru m n i ++ fj S X r i (k + 1)) p10 p11 a r) := ⟨by rw [fj_yes (by omega) HYB.out, ← List.append_assoc]; exact ho8, hk8 _ _ _ (by decide) HU2.out.ba, hk8 _ _ _ (by decide) HU2.out.br, HU2.out.be.trans hb8⟩; clear ho8 hb8 hk8))
                        go_roundw
                        case rel => exact ⟨k + 1, by omega, by omega, by simp, HF⟩
                        case measure => simp [intOf]; omega
                      · have HNB : Hid (badB S X r i k = false) := (show _ = _ from by rw [HBAD.out]; simp [g2])
                        refine wp_region_kept wb.heap.size (by kernel_rfl) (by kernel_rfl) ?_
                        intro hne
                        repeat (go_big_quiet_step (fail))
                        refine wpQuiet_nil ?_
                        rintro u ⟨xk, hxk⟩
                        have hR1 := xk.h
                        rw [← hxk] at hR1
                        have HU2 : Hid (Inr w3 u u8 (fall S X Ru m n i ++ fj S X r i k) p10 p11 a r) := HB.out.2.later hR1
                        clear hxk xk hne K0 M0 N2 V1 V2 hR1
                        have HF : Hid (Inr w3 u u8 (fall S X Ru m n i ++ fj S X r i (k + 1)) p10 p11 a r) := by rw [fj_no HNB.out]; exact HU2.out
                        clear HH HB HU2
                        go_wp2
                        go_roundw
                        case rel => exact ⟨k + 1, by omega, by omega, by simp, HF⟩
                        case measure => simp [intOf]; omega
                    · have HNB : Hid (badB S X r i k = false) := (show _ = _ from by rw [HBAD.out]; simp [g1])
                      refine wp_region_kept wb.heap.size (by kernel_rfl) (by kernel_rfl) ?_
                      intro hne
                      repeat (go_big_quiet_step (fail))
                      refine wpQuiet_nil ?_
                      rintro u ⟨xk, hxk⟩
                      have hR1 := xk.h
                      rw [← hxk] at hR1
                      have HU2 : Hid (Inr w3 u u8 (fall S X Ru m n i ++ fj S X r i k) p10 p11 a r) := HB.out.2.later hR1
                      clear hxk xk hne K0 M0 N2 V1 V2 hR1
                      have HF : Hid (Inr w3 u u8 (fall S X Ru m n i ++ fj S X r i (k + 1)) p10 p11 a r) := by rw [fj_no HNB.out]; exact HU2.out
                      clear HH HB HU2
                      go_wp2
                      go_roundw
                      case rel => exact ⟨k + 1, by omega, by omega, by simp, HF⟩
                      case measure => simp [intOf]; omega
                · have b1 : (y.ly == a.ly) = false := by simpa using q1
                  replace q1 : Hid _ := q1
                  have HNB : Hid (badB S X r i k = false) := (show _ = _ from by rw [HBAD.out]; simp [b1])
                  refine wp_region_kept wb.heap.size (by kernel_rfl) (by kernel_rfl) ?_
                  intro hne
                  repeat (go_big_quiet_step (fail))
                  refine wpQuiet_nil ?_
                  rintro u ⟨xk, hxk⟩
                  have hR1 := xk.h
                  rw [← hxk] at hR1
                  have HU2 : Hid (Inr w3 u u8 (fall S X Ru m n i ++ fj S X r i k) p10 p11 a r) := HB.out.2.later hR1
                  clear hxk xk hne K0 M0 N2 V1 V2 hR1
                  have HF : Hid (Inr w3 u u8 (fall S X Ru m n i ++ fj S X r i (k + 1)) p10 p11 a r) := by rw [fj_no HNB.out]; exact HU2.out
                  clear HH HB HU2
                  go_wp2
                  go_roundw
                  case rel => exact ⟨k + 1, by omega, by omega, by simp, HF⟩
                  case measure => simp [intOf]; omega
              · obtain rfl : n = k := by omega
                have HF : Hid (Wl wr w3.heap.size u8 (fall S X Ru m n (i + 1)) ∧ Below w3.heap.size w3 wr) := ⟨by show Wl wr w3.heap.size u8 (fall S X Ru m n i ++ fj S X (frl Ru m (S i).ly) i n); rw [← HAR.out.1, ← HR.out]; exact HH.out.li, HH.out.be⟩
                clear HH
                go_wp2
                go_roundw
                case rel => exact ⟨i + 1, by omega, by simp, HF⟩
                case measure => simp [intOf]; omega
          · refine wp_region_kept wa.heap.size (by kernel_rfl) (by kernel_rfl) ?_
            intro hne
            repeat (go_big_quiet_step (first | (go_at_call 63; exact Calls.kept_of (Nat.le_refl _) (HM _))))
            refine wpQuiet_nil ?_
            rintro u ⟨xk, hxk⟩
            have hR1 := xk.h
            rw [← hxk] at hR1
            have HU : Hid (Inr w3 u u8 (fall S X Ru m n i) p10 p11 a r) := HW.out.later hR1
            clear hxk xk hne k1 k2 k3 k4 n1 HM hR1 hw1 hw2 HW
            have hlen : (fall S X Ru m n i).length ≤ 1000000 := by have h1 := fall_len (S := S) (X := X) (Ru := Ru) (m := m) (n := n) i; have h2 := Nat.mul_le_mul (show i ≤ 60 by omega) (show n + 1 ≤ 61 by omega); omega
            have HLEN : Hid ((fall S X Ru m n i).length ≤ 1000000 ∧ w3.heap.size ≤ u.heap.size) := ⟨hlen, HU.out.be.size⟩
            clear hlen
            have HBS : Hid (fbase i a r = []) := (show _ = _ from by unfold fbase; rw [HWD.out]; simp [qw])
            have HS : Hid (Inr w3 u u8 (fall S X Ru m n i ++ fj S X r i (i + 1)) p10 p11 a r) := by rw [fj_low _ (Nat.le_refl _), ← HAR.out.1, HBS.out, List.append_nil]; exact HU.out
            clear HU
            go_wp2_with fail
            go_loopw [8, 12] (fun v s12 wr => ∃ k : Nat, i + 1 ≤ k ∧ k ≤ n ∧ s12 = .int .i64 k ∧ Hid (Inr w3 wr v (fall S X Ru m n i ++ fj S X r i k) p10 p11 a r)) (fun _ s12 _ => n - (intOf s12).toNat)
            case atStart => exact ⟨i + 1, Nat.le_refl _, by omega, by simp, HS⟩
            case round =>
              clear HS
              obtain ⟨k, hk0, hk, rfl, HH⟩ := hrel
              by_cases hkn : k < n
              · have hkI : (k : Int) < n := by omega
                have hc := RdV.cells (w := w) (HA _ (HV _ HH.out.be).out.2.1).out.1 hkn
                obtain ⟨y, hy⟩ : ∃ y, y = S k := ⟨_, rfl⟩
                rw [← hy] at hc
                have c0 : wr.cell? ⟨b, off + k * 5, none⟩ = some (.int .i64 y.ly) := hc 0 (by omega)
                have c1 : wr.cell? ⟨b, off + k * 5 + 1, none⟩ = some (.int .i64 y.xa) := hc 1 (by omega)
                have c2 : wr.cell? ⟨b, off + k * 5 + 2, none⟩ = some (.int .i64 y.ya) := hc 2 (by omega)
                have c3 : wr.cell? ⟨b, off + k * 5 + 3, none⟩ = some (.int .i64 y.xb) := hc 3 (by omega)
                have c4 : wr.cell? ⟨b, off + k * 5 + 4, none⟩ = some (.int .i64 y.yb) := hc 4 (by omega)
                have HYK : Hid (y = S k ∧ Rok y) := ⟨hy, by rw [hy]; exact HK2.out.2 k hkn⟩
                clear hy hc
                go_upto_region 24 with fail
                obtain ⟨wb, hwb⟩ : ∃ W, W = wr.alloc (.cells #[.int .i64 y.ly, .int .i64 y.xa, .int .i64 y.ya, .int .i64 y.xb, .int .i64 y.yb] 68) := ⟨_, rfl⟩
                obtain ⟨p13, h13⟩ : ∃ p, p = wr.heap.size := ⟨_, rfl⟩
                have hbl : Below wr.heap.size wr wb := by rw [hwb]; exact (Below.refl _ _).alloc (Nat.le_refl _) _
                have HB : Hid (Blk wb p13 #[.int .i64 y.ly, .int .i64 y.xa, .int .i64 y.ya, .int .i64 y.xb, .int .i64 y.yb] 68 ∧ Inr w3 wb u8 (fall S X Ru m n i ++ fj S X r i k) p10 p11 a r) := ⟨by rw [hwb]; exact Blk.new h13, HH.out.later hbl⟩
                rw [← hwb, ← h13]
                clear hwb h13 c0 c1 c2 c3 c4 hbl
                have e0 := HB.out.1.cell (j := 0) rfl
                have d0 := HB.out.2.ba.cell (j := 0) rfl
                have e1 := HB.out.1.cell (j := 1) rfl
                have d1 := HB.out.2.ba.cell (j := 1) rfl
                have e2 := HB.out.1.cell (j := 2) rfl
                have d2 := HB.out.2.ba.cell (j := 2) rfl
                have e3 := HB.out.1.cell (j := 3) rfl
                have d3 := HB.out.2.ba.cell (j := 3) rfl
                have e4 := HB.out.1.cell (j := 4) rfl
                have d4 := HB.out.2.ba.cell (j := 4) rfl
                obtain ⟨X1, hx⟩ : ∃ X, X = cmn a.xa a.xb y.xa y.xb := ⟨_, rfl⟩
                obtain ⟨Y1, hyy⟩ : ∃ Y, Y = cmn a.ya a.yb y.ya y.yb := ⟨_, rfl⟩
                have hbd := cmn_b HAR.out.2 HYK.out.2
                have HXY : Hid (X1 = cmn a.xa a.xb y.xa y.xb ∧ (-100000 ≤ min a.xb y.xb - max a.xa y.xa ∧ min a.xb y.xb - max a.xa y.xa ≤ 100000) ∧ Y1 = cmn a.ya a.yb y.ya y.yb ∧ (-100000 ≤ min a.yb y.yb - max a.ya y.ya ∧ min a.yb y.yb - max a.ya y.ya ≤ 100000)) := ⟨hx, by unfold cmn at hbd; omega, hyy, by unfold cmn at hbd; omega⟩
                rw [← hx, ← hyy] at hbd
                obtain ⟨hb1, hb2, hb3, hb4⟩ := hbd
                obtain ⟨gx, hgx⟩ : ∃ g, g = max 0 (-X1) := ⟨_, rfl⟩
                obtain ⟨gy, hgy⟩ : ∃ g, g = max 0 (-Y1) := ⟨_, rfl⟩
                have HG : Hid (gx = max 0 (-X1) ∧ gy = max 0 (-Y1)) := ⟨hgx, hgy⟩
                have hnx : wrap64 (-X1) = -X1 := by unfold wrap64; omega
                have hny : wrap64 (-Y1) = -Y1 := by unfold wrap64; omega
                obtain ⟨xk0, hxk0⟩ : ∃ x, x = X k := ⟨_, rfl⟩
                obtain ⟨xi0, hxi0⟩ : ∃ x, x = X i := ⟨_, rfl⟩
                have HBAD : Hid (badB S X r i k = ((y.ly == a.ly) && ((xk0 != xi0) && (decide (gx < r.sp) && decide (gy < r.sp))))) := (show _ = _ from by unfold badB nearB gapX gapY; rw [hxk0, hxi0, ← HYK.out.1, ← HAR.out.1, hgx, hgy, hx, hyy])
                have HXX : Hid (xk0 = X k ∧ xi0 = X i) := ⟨hxk0, hxi0⟩
                clear hx hyy hgx hgy hxk0 hxi0
                go_wp2_with fail
                refine (sCommon_any a.xa a.xb y.xa y.xb _ HXY.out.2.1).mono ?_
                rintro e w1 ⟨rfl, hww⟩
                obtain rfl := hww
                rw [← HXY.out.1]
                go_wp2_with fail
                refine (sMost_any 0 (-X1) _).mono ?_
                rintro e w1 ⟨rfl, hww⟩
                obtain rfl := hww
                rw [← HG.out.1]
                go_wp2_with fail
                refine (sCommon_any a.ya a.yb y.ya y.yb _ HXY.out.2.2.2).mono ?_
                rintro e w1 ⟨rfl, hww⟩
                obtain rfl := hww
                rw [← HXY.out.2.2.1]
                go_wp2_with fail
                refine (sMost_any 0 (-Y1) _).mono ?_
                rintro e w1 ⟨rfl, hww⟩
                obtain rfl := hww
                rw [← HG.out.2]
                go_upto_region 26 with fail
                clear e0 e1 e2 e3 e4 d0 d1 d2 d3 d4 hb1 hb2 hb3 hb4 hnx hny
                have K0 : ∀ xk : Kept wb.heap.size wb, xk.w.cell? ⟨p13, 0, none⟩ = some (.int .i64 y.ly) := fun xk => (HB.out.1.old xk.h).cell rfl
                have M0 : ∀ xk : Kept wb.heap.size wb, xk.w.cell? ⟨p10, 0, none⟩ = some (.int .i64 a.ly) := fun xk => (HB.out.2.ba.old xk.h).cell rfl
                have N2 : ∀ xk : Kept wb.heap.size wb, xk.w.cell? ⟨p11, 2, none⟩ = some (.int .i64 r.sp) := fun xk => (HB.out.2.br.old xk.h).cell rfl
                obtain ⟨vb, voff, hva, hvk⟩ := row_at1 (HV wb HB.out.2.be).out.1 hkn
                subst hva
                obtain ⟨vb2, voff2, hva2, hvi⟩ := row_at1 (HV wb HB.out.2.be).out.1 hi
                simp only [Option.some.injEq, Addr.mk.injEq] at hva2
                obtain ⟨rfl, rfl, _⟩ := hva2
                rw [← HXX.out.1] at hvk
                rw [← HXX.out.2] at hvi
                have V1 : ∀ xk : Kept wb.heap.size wb, xk.w.cell? ⟨vb, voff + k, none⟩ = some (.int .i64 xk0) := fun xk => kold xk.h hvk
                have V2 : ∀ xk : Kept wb.heap.size wb, xk.w.cell? ⟨vb, voff + i, none⟩ = some (.int .i64 xi0) := fun xk => kold xk.h hvi
                have hinI : (i : Int) < n := by omega
                clear hvk hvi
                by_cases q1 : y.ly = a.ly
                · have b1 : (y.ly == a.ly) = true := by simpa using q1
                  have HQ1 : Hid (y.ly = a.ly) := q1
                  clear q1
                  by_cases q2 : xk0 = xi0
                  · have b2 : (xk0 != xi0) = false := by simpa using q2
                    have b3 : (xi0 != xk0) = false := by simpa using q2.symm
                    replace q2 : Hid _ := q2
                    have HNB : Hid (badB S X r i k = false) := (show _ = _ from by rw [HBAD.out]; simp [b2])
                    refine wp_region_kept wb.heap.size (by kernel_rfl) (by kernel_rfl) ?_
                    intro hne
                    repeat (go_big_quiet_step (fail))
                    refine wpQuiet_nil ?_
                    rintro u ⟨xk, hxk⟩
                    have hR1 := xk.h
                    rw [← hxk] at hR1
                    have HU2 : Hid (Inr w3 u u8 (fall S X Ru m n i ++ fj S X r i k) p10 p11 a r) := HB.out.2.later hR1
                    clear hxk xk hne K0 M0 N2 V1 V2 hR1
                    have HF : Hid (Inr w3 u u8 (fall S X Ru m n i ++ fj S X r i (k + 1)) p10 p11 a r) := by rw [fj_no HNB.out]; exact HU2.out
                    clear HH HB HU2
                    go_wp2
                    go_roundw
                    case rel => exact ⟨k + 1, by omega, by omega, by simp, HF⟩
                    case measure => simp [intOf]; omega
                  · have b2 : (xk0 != xi0) = true := by simpa using q2
                    have b3 : (xi0 != xk0) = true := by simpa using fun e => q2 e.symm
                    replace q2 : Hid _ := q2
                    by_cases g1 : gx < r.sp
                    · by_cases g2 : gy < r.sp
                      · have HYB : Hid (badB S X r i k = true) := (show _ = _ from by rw [HBAD.out]; simp [b1, b2, g1, g2])
                        refine wp_region_kept wb.heap.size (by kernel_rfl) (by kernel_rfl) ?_
                        intro hne
                        repeat (go_big_quiet_step (fail))
                        refine wpQuiet_nil ?_
                        rintro u ⟨xk, hxk⟩
                        have hR1 := xk.h
                        rw [← hxk] at hR1
                        have HU2 : Hid (Inr w3 u u8 (fall S X Ru m n i ++ fj S X r i k) p10 p11 a r) := HB.out.2.later hR1
                        clear hxk xk hne K0 M0 N2 V1 V2 hR1
                        have hlen2 : (fall S X Ru m n i ++ fj S X r i k).length ≤ 1000000000 := by have := fj_len (S := S) (X := X) (r := r) (i := i) k; have := HLEN.out.1; rw [List.length_append]; omega
                        have HLEN2 : Hid ((fall S X Ru m n i ++ fj S X r i k).length ≤ 1000000000 ∧ w3.heap.size ≤ u.heap.size) := ⟨hlen2, HU2.out.be.size⟩
                        clear hlen2 HH HB
                        go_wp2_with (first | (at_builtin; refine pushW2 rfl (.tmp 148) (.tmp 152) rfl u ⟨2, i, k⟩ w3.heap.size u8 (fall S X Ru m n i ++ fj S X r i k) (by simp [Act.eval]) HU2.out.li 1 (by simp [Act.eval]) HLEN2.out.1 HLEN2.out.2 ?_; intro v8 w8 ho8 hb8 hk8; have HF : Hid (Inr w3 w8 v8 (fall S X Ru m n i ++ fj S X r i (k + 1)) p10 p11 a r) := ⟨by rw [fj_yes (by omega) HYB.out, ← List.append_assoc]; exact ho8, hk8 _ _ _ (by decide) HU2.out.ba, hk8 _ _ _ (by decide) HU2.out.br, HU2.out.be.trans hb8⟩; clear ho8 hb8 hk8))
                        go_roundw
                        case rel => exact ⟨k + 1, by omega, by omega, by simp, HF⟩
                        case measure => simp [intOf]; omega
                      · have HNB : Hid (badB S X r i k = false) := (show _ = _ from by rw [HBAD.out]; simp [g2])
                        refine wp_region_kept wb.heap.size (by kernel_rfl) (by kernel_rfl) ?_
                        intro hne
                        repeat (go_big_quiet_step (fail))
                        refine wpQuiet_nil ?_
                        rintro u ⟨xk, hxk⟩
                        have hR1 := xk.h
                        rw [← hxk] at hR1
                        have HU2 : Hid (Inr w3 u u8 (fall S X Ru m n i ++ fj S X r i k) p10 p11 a r) := HB.out.2.later hR1
                        clear hxk xk hne K0 M0 N2 V1 V2 hR1
                        have HF : Hid (Inr w3 u u8 (fall S X Ru m n i ++ fj S X r i (k + 1)) p10 p11 a r) := by rw [fj_no HNB.out]; exact HU2.out
                        clear HH HB HU2
                        go_wp2
                        go_roundw
                        case rel => exact ⟨k + 1, by omega, by omega, by simp, HF⟩
                        case measure => simp [intOf]; omega
                    · have HNB : Hid (badB S X r i k = false) := (show _ = _ from by rw [HBAD.out]; simp [g1])
                      refine wp_region_kept wb.heap.size (by kernel_rfl) (by kernel_rfl) ?_
                      intro hne
                      repeat (go_big_quiet_step (fail))
                      refine wpQuiet_nil ?_
                      rintro u ⟨xk, hxk⟩
                      have hR1 := xk.h
                      rw [← hxk] at hR1
                      have HU2 : Hid (Inr w3 u u8 (fall S X Ru m n i ++ fj S X r i k) p10 p11 a r) := HB.out.2.later hR1
                      clear hxk xk hne K0 M0 N2 V1 V2 hR1
                      have HF : Hid (Inr w3 u u8 (fall S X Ru m n i ++ fj S X r i (k + 1)) p10 p11 a r) := by rw [fj_no HNB.out]; exact HU2.out
                      clear HH HB HU2
                      go_wp2
                      go_roundw
                      case rel => exact ⟨k + 1, by omega, by omega, by simp, HF⟩
                      case measure => simp [intOf]; omega
                · have b1 : (y.ly == a.ly) = false := by simpa using q1
                  replace q1 : Hid _ := q1
                  have HNB : Hid (badB S X r i k = false) := (show _ = _ from by rw [HBAD.out]; simp [b1])
                  refine wp_region_kept wb.heap.size (by kernel_rfl) (by kernel_rfl) ?_
                  intro hne
                  repeat (go_big_quiet_step (fail))
                  refine wpQuiet_nil ?_
                  rintro u ⟨xk, hxk⟩
                  have hR1 := xk.h
                  rw [← hxk] at hR1
                  have HU2 : Hid (Inr w3 u u8 (fall S X Ru m n i ++ fj S X r i k) p10 p11 a r) := HB.out.2.later hR1
                  clear hxk xk hne K0 M0 N2 V1 V2 hR1
                  have HF : Hid (Inr w3 u u8 (fall S X Ru m n i ++ fj S X r i (k + 1)) p10 p11 a r) := by rw [fj_no HNB.out]; exact HU2.out
                  clear HH HB HU2
                  go_wp2
                  go_roundw
                  case rel => exact ⟨k + 1, by omega, by omega, by simp, HF⟩
                  case measure => simp [intOf]; omega
              · obtain rfl : n = k := by omega
                have HF : Hid (Wl wr w3.heap.size u8 (fall S X Ru m n (i + 1)) ∧ Below w3.heap.size w3 wr) := ⟨by show Wl wr w3.heap.size u8 (fall S X Ru m n i ++ fj S X (frl Ru m (S i).ly) i n); rw [← HAR.out.1, ← HR.out]; exact HH.out.li, HH.out.be⟩
                clear HH
                go_wp2
                go_roundw
                case rel => exact ⟨i + 1, by omega, by simp, HF⟩
                case measure => simp [intOf]; omega
        · obtain rfl : n = i := by omega
          obtain ⟨la, lc, ev⟩ := HH.out.1.form
          subst ev
          obtain ⟨N0, hN0⟩ : ∃ N, N = (fall S X Ru m n n).length := ⟨_, rfl⟩
          rw [← hN0] at HH ⊢
          have HQ := HV _ HH.out.2
          have e0 := HQ.out.2.2.cell (j := 0) rfl
          have e1 := HQ.out.2.2.cell (j := 1) rfl
          have ef : ∀ j, wr.frozen? ⟨p4, j, none⟩ = false := fun j => HQ.out.2.2.frozen j
          obtain ⟨w4, hw4⟩ : ∃ W, W = (wr.setCell ⟨p4, 0, none⟩ (.int .i64 0)).setCell ⟨p4, 1, none⟩ (.slice la N0 lc) := ⟨_, rfl⟩
          have H4 : Hid (Blk w4 p4 #[.int .i64 0, .slice la N0 lc] 45 ∧ Below w.heap.size w w4 ∧ OwnW w.heap.size w4.heap.size w4 0 (.slice la N0 lc) (fall S X Ru m n n) ∧ w4 = (wr.setCell ⟨p4, 0, none⟩ (.int .i64 0)).setCell ⟨p4, 1, none⟩ (.slice la N0 lc)) := by
            refine ⟨by rw [hw4]; exact (HQ.out.2.2.set 0 _ rfl).set 1 _ rfl, by rw [hw4]; exact (HQ.out.2.1.setCell H1.out.2.2 _).setCell H1.out.2.2 _, ?_, hw4⟩
            have hz4 : w4.heap.size = wr.heap.size := by rw [hw4]; simp
            refine Or.inr ⟨rfl, Wl.owj ((HH.out.1.keepOn fun g hg => ?_).low (by have := H3.out.2.size; omega)) (Nat.le_refl _)⟩
            have hpg : g ≠ p4 := by have := (HH.out.1.lt g hg).1; have := H3.out.1.lt; omega
            rw [hw4, Below.heap_setCell _ _ _ _ (by simpa using hpg), Below.heap_setCell _ _ _ _ (by simpa using hpg)]
          clear hw4 hN0
          go_wp2_with fail
          rw [← H4.out.2.2.2]
          have s0 := H4.out.1.cell (j := 0) rfl
          have s1 := H4.out.1.cell (j := 1) rfl
          refine bodyPost_ret (v := .agg #[.int .i64 0, .slice la N0 lc]) (by simp [results, Try.results27, go_sem, s0, s1]) rfl (by rw [HPC.out]; exact ⟨_, rfl, H4.out.2.2.1, H4.out.2.1⟩)
end Go.Proofs.Ytclnmikneomccaa
