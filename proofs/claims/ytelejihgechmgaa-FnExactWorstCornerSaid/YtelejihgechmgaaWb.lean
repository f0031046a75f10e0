/- Worst corners, in both packages: contracts, whole. -/
import Derived.Test.YtelejihgechmgaaWa
namespace Go.Proofs.Ytelejihgechmgaa
open Go.RowKit
set_option linter.unusedVariables false
set_option linter.unusedSimpArgs false
theorem fields36s : Try.prog.underlying 36 = Try.prog.underlying 36 := rfl
theorem field36_0 (k a : Int) (w : World) : (Instr.field 36 (.agg #[.int .i64 k, .int .i64 a]) 0).run Try.prog w = .ok (.int .i64 k) w := by
  have h : ((Try.prog.fieldsOf 36)[0]?).map (fun f => (f.type, f.offset)) = some (2, 0) := by kernel_rfl
  obtain ⟨f, hf, e⟩ := Option.map_eq_some_iff.1 h
  simp only [Prod.mk.injEq] at e
  obtain ⟨h1, h2⟩ := e
  have hh : (Try.prog.fieldsOf 36)[0]? = some f := hf
  simp [Instr.field, run_underlying Try.underlying36, hh, h1, h2, asAgg, part, isAgg, run_underlying Try.underlying2]
set_option maxRecDepth 20000 in
set_option maxHeartbeats 6400000 in
theorem sSlack_any {w : World} {ao qo so : Option Addr} {n d ns cap qc sc : Nat} {L : Nat → Li} {P S : Nat → Int} {r : Int} (hr : r = Mt.lcode L n d P ns S) (h : RdL w (.slice ao n cap) n L) (hp : RdRow w (.slice qo d qc) d P) (hs : RdRow w (.slice so ns sc) ns S) (hn : n ≤ 1048576) (hd : d ≤ 1048576) (hns : ns ≤ 1048576) :
    Calls Try.prog 88 #[.slice ao n cap, .slice qo d qc, .slice so ns sc] w fun e w' => e = .returned (.int .i64 r) ∧ Below w.heap.size w w' := by
  obtain ⟨c, hc⟩ : ∃ c, c = Mt.tcode L n d P := ⟨_, rfl⟩
  obtain ⟨m, hm⟩ : ∃ c, c = Mt.merit L n d P := ⟨_, rfl⟩
  have HCl := sMerit_any hc hm h hp hn hd
  have HS : ∀ W, Below w.heap.size w W → Hid (RdRow W (.slice so ns sc) ns S) := fun W hb => hs.later hb
  have hnsI : (ns : Int) ≤ 1048576 := by omega
  have hdI : (d : Int) ≤ 1048576 := by omega
  have HC : Hid (c = Mt.tcode L n d P ∧ r = Mt.lcode L n d P ns S) := ⟨hc, hr⟩
  have r1 : c ≠ 0 → r = c := fun hz => by rw [hr]; unfold Mt.lcode; rw [if_neg (by rw [← hc]; exact hz), hc]
  have r2 : c = 0 → ns ≠ d → r = 1 := fun hz hd => by rw [hr]; unfold Mt.lcode; rw [if_pos (by rw [← hc]; exact hz), if_neg hd]
  have r3 : c = 0 → ns = d → r = if Mt.all (fun k => Mt.inR (S k) 0 1000) ns then 0 else 3 := fun hz hd => by rw [hr]; unfold Mt.lcode; rw [if_pos (by rw [← hc]; exact hz), if_pos hd]
  replace r1 : Hid _ := r1
  replace r2 : Hid _ := r2
  replace r3 : Hid _ := r3
  clear hc hm hr h hp hs
  by_cases hz : c = 0
  case neg =>
    obtain rfl := r1.out hz
    have hb : (r != 0) = true := by simpa using hz
    clear HS hz
    go_enter Try.func88, Try.ntmps88
    go_wp2_with (first | (go_at_call 33; refine HCl.mono ?_; rintro e w1 ⟨rfl, hb1⟩))
    go_ret
    exact ⟨rfl, hb1.alloc hb1.size _⟩
  case pos =>
  subst hz
  by_cases hnd : ns = d
  case neg =>
    obtain rfl := r2.out rfl hnd
    have hb : ((ns : Int) != (d : Int)) = true := by simp; omega
    clear HS hnd
    go_enter Try.func88, Try.ntmps88
    go_wp2_with (first | (go_at_call 33; refine HCl.mono ?_; rintro e w1 ⟨rfl, hb1⟩))
    go_ret
    exact ⟨rfl, hb1.alloc hb1.size _⟩
  case pos =>
  have HR := r3.out rfl hnd
  replace HR : Hid _ := HR
  have hb : ((ns : Int) != (d : Int)) = false := by simp; omega
  clear r1 r2 r3 hnd
  go_enter Try.func88, Try.ntmps88
  go_wp2_with (first | (go_at_call 33; refine HCl.mono ?_; rintro e w1 ⟨rfl, hb1⟩))
  obtain ⟨X, hX⟩ : ∃ X, X = w1.alloc (.cells #[.int .i64 0, .int .i64 m] 36) := ⟨_, rfl⟩
  have HX : Hid (Below w.heap.size w X) := by rw [hX]; exact hb1.alloc hb1.size _
  rw [← hX]
  clear hX hb1 HCl
  go_loopw [8] (fun i wr => wr = X ∧ ∃ k : Nat, k ≤ ns ∧ i = .int .i64 k ∧ Hid (Mt.all (fun k => Mt.inR (S k) 0 1000) k = true)) (fun i _ => ns - (intOf i).toNat)
  case atStart => exact ⟨rfl, 0, Nat.zero_le _, rfl, rfl⟩
  case round =>
    obtain ⟨rfl, k, hk, rfl, HF⟩ := hrel
    by_cases hkn : k < ns
    · obtain ⟨b, off, rfl, hcp⟩ := (HS wr HX.out).out.at hkn
      obtain ⟨v, hv⟩ : ∃ v, v = S k := ⟨_, rfl⟩
      rw [← hv] at hcp
      have HV : Hid (v = S k) := hv
      have hkI : (k : Int) < ns := by omega
      clear hv HS
      cases hj : Mt.inR v 0 1000 with
      | true =>
        have HF2 : Hid (Mt.all (fun k => Mt.inR (S k) 0 1000) (k + 1) = true) := Mt.all_next HF.out (by show Mt.inR (S k) 0 1000 = true; rw [← HV.out]; exact hj)
        go_wp2_with (first | (go_at_call 55; refine (sIn_any v 0 1000 _).mono ?_; rintro e w1 ⟨rfl, rfl⟩; rw [hj]))
        go_roundw
        case rel => exact ⟨by trivial, k + 1, by omega, by simp, HF2⟩
        case measure => simp [intOf]; omega
      | false =>
        have hA : Mt.all (fun k => Mt.inR (S k) 0 1000) ns = false := Mt.all_hit hkn (by show Mt.inR (S k) 0 1000 = false; rw [← HV.out]; exact hj)
        have hs : Hid (r = 3) := by show r = 3; rw [HR.out, hA]; rfl
        clear hA
        go_wp2_with (first | (go_at_call 55; refine (sIn_any v 0 1000 _).mono ?_; rintro e w1 ⟨rfl, rfl⟩; rw [hj]))
        go_ret
        exact ⟨by rw [hs.out]; rfl, HX.out⟩
    · obtain rfl : ns = k := by omega
      have hs : Hid (r = 0) := by show r = 0; rw [HR.out, HF.out]; rfl
      clear HS
      go_wp2
      go_ret
      exact ⟨by rw [hs.out]; rfl, HX.out⟩
set_option maxRecDepth 20000 in
set_option maxHeartbeats 6400000 in
theorem iSlack_any {w : World} {ao qo so : Option Addr} {n d ns cap qc sc : Nat} {L : Nat → Li} {P S : Nat → Int} {r : Int} (hr : r = Mt.lcode L n d P ns S) (h : RdL w (.slice ao n cap) n L) (hp : RdRow w (.slice qo d qc) d P) (hs : RdRow w (.slice so ns sc) ns S) (hn : n ≤ 1048576) (hd : d ≤ 1048576) (hns : ns ≤ 1048576) :
    Calls Try.prog 91 #[.slice ao n cap, .slice qo d qc, .slice so ns sc] w fun e w' => e = .returned (.int .i64 r) ∧ Below w.heap.size w w' := by
  obtain ⟨c, hc⟩ : ∃ c, c = Mt.tcode L n d P := ⟨_, rfl⟩
  obtain ⟨m, hm⟩ : ∃ c, c = Mt.merit L n d P := ⟨_, rfl⟩
  have HCl := iMerit_any hc hm h hp hn hd
  have HS : ∀ W, Below w.heap.size w W → Hid (RdRow W (.slice so ns sc) ns S) := fun W hb => hs.later hb
  have hnsI : (ns : Int) ≤ 1048576 := by omega
  have hdI : (d : Int) ≤ 1048576 := by omega
  have HC : Hid (c = Mt.tcode L n d P ∧ r = Mt.lcode L n d P ns S) := ⟨hc, hr⟩
  have r1 : c ≠ 0 → r = c := fun hz => by rw [hr]; unfold Mt.lcode; rw [if_neg (by rw [← hc]; exact hz), hc]
  have r2 : c = 0 → ns ≠ d → r = 1 := fun hz hd => by rw [hr]; unfold Mt.lcode; rw [if_pos (by rw [← hc]; exact hz), if_neg hd]
  have r3 : c = 0 → ns = d → r = if Mt.all (fun k => Mt.inR (S k) 0 1000) ns then 0 else 3 := fun hz hd => by rw [hr]; unfold Mt.lcode; rw [if_pos (by rw [← hc]; exact hz), if_pos hd]
  replace r1 : Hid _ := r1
  replace r2 : Hid _ := r2
  replace r3 : Hid _ := r3
  clear hc hm hr h hp hs
  have hfl := field36_0
  by_cases hz : c = 0
  case neg =>
    obtain rfl := r1.out hz
    have hb : (r != 0) = true := by simpa using hz
    clear HS hz
    go_enter Try.func91, Try.ntmps91
    go_wp2_with (first | (go_at_call 35; refine HCl.mono ?_; rintro e w1 ⟨rfl, hb1⟩))
    go_ret
    exact ⟨rfl, hb1⟩
  case pos =>
  subst hz
  by_cases hnd : ns = d
  case neg =>
    obtain rfl := r2.out rfl hnd
    have hb : ((ns : Int) != (d : Int)) = true := by simp; omega
    clear HS hnd
    go_enter Try.func91, Try.ntmps91
    go_wp2_with (first | (go_at_call 35; refine HCl.mono ?_; rintro e w1 ⟨rfl, hb1⟩))
    go_ret
    exact ⟨rfl, hb1⟩
  case pos =>
  have HR := r3.out rfl hnd
  have HFt : ∀ W v, Below w.heap.size w W → Bnd W v 0 1000 3 → Calls Try.prog 63 #[v, .slice so ns sc] W fun e w' => e = .returned (.int .i64 r) ∧ Below W.heap.size W w' := fun W v hb hv => by
    rw [HR]
    exact fault_any hv (HS W hb).out hns
  have hb : ((ns : Int) != (d : Int)) = false := by simp; omega
  clear r1 r2 r3 hnd HR
  go_enter Try.func91, Try.ntmps91
  go_wp2_with (first | (go_at_call 35; refine HCl.mono ?_; rintro e w1 ⟨rfl, hb1⟩) | (go_at_call 67; refine (between_any 0 1000 3 _).mono ?_; rintro e w2 ⟨b1, b2, rfl, -, -, q1, q2, hb2⟩) | (go_at_call 63; refine (HFt _ _ (hb1.trans (hb2.mono hb1.size)) ⟨b1, b2, rfl, q1, q2⟩).mono ?_; rintro e w3 ⟨rfl, hb3⟩))
  go_ret
  exact ⟨rfl, (hb1.trans (hb2.mono hb1.size)).trans (hb3.mono (hb1.trans (hb2.mono hb1.size)).size)⟩
set_option maxRecDepth 20000 in
set_option maxHeartbeats 6400000 in
theorem iWorst_any {w : World} {ao qo so : Option Addr} {n d ns cap qc sc : Nat} {L : Nat → Li} {P S : Nat → Int} {q m : Int} (hq : q = Mt.lcode L n d P ns S) (hm : m = Mt.worst L n d P ns S) (h : RdL w (.slice ao n cap) n L) (hp : RdRow w (.slice qo d qc) d P) (hs : RdRow w (.slice so ns sc) ns S) (hn : n ≤ 1048576) (hd : d ≤ 1048576) (hns : ns ≤ 1048576) :
    Calls Try.prog 51 #[.slice ao n cap, .slice qo d qc, .slice so ns sc] w fun e w' => e = .returned (.agg #[.int .i64 q, .int .i64 m]) ∧ Below w.heap.size w w' := by
  have H : ∀ W, Below w.heap.size w W → Hid (RdL W (.slice ao n cap) n L ∧ RdRow W (.slice qo d qc) d P ∧ RdRow W (.slice so ns sc) ns S) := fun W hb => ⟨h.later hb, hp.later hb, hs.later hb⟩
  have bad : q ≠ 0 → m = 0 := fun hz => by rw [hm]; unfold Mt.worst; rw [if_neg (by rw [← hq]; exact hz)]
  have fine : q = 0 → m = Mt.wst L d P S n ∧ Mt.LGood L n d P ns S := fun hz => ⟨by rw [hm]; unfold Mt.worst; rw [if_pos (by rw [← hq]; exact hz)], Mt.lgood (hq.symm.trans hz)⟩
  obtain ⟨X, hX⟩ : ∃ X, X = w.alloc (.cells #[.int .i64 0, .int .i64 0] 36) := ⟨_, rfl⟩
  have BX : Hid (Blk X w.heap.size #[.int .i64 0, .int .i64 0] 36 ∧ Below w.heap.size w X) := by rw [hX]; exact ⟨Blk.new rfl, (Below.refl _ _).alloc (Nat.le_refl _) _⟩
  have hX1 : w.heap.size < X.heap.size := BX.out.1.lt
  have HCl := iSlack_any hq (h.later BX.out.2) (hp.later BX.out.2) (hs.later BX.out.2) hn hd hns
  replace bad : Hid _ := bad
  replace fine : Hid _ := fine
  clear hq hm h hp hs
  go_enter Try.func51, Try.ntmps51
  go_wp2_with fail
  rw [← hX]
  clear hX
  by_cases hz : q = 0
  case neg =>
    have hm0 := bad.out hz
    subst hm0
    have hb : (q != 0) = true := by simpa using hz
    clear H hz
    go_upto_region 3 with (first | (go_at_call 91; refine HCl.mono ?_; rintro e w1 ⟨rfl, hb1⟩))
    have r0 := (BX.out.1.old hb1).cell (j := 0) (v := .int .i64 0) rfl
    have r1 := (BX.out.1.old hb1).cell (j := 1) (v := .int .i64 0) rfl
    have rf := (BX.out.1.old hb1).frozen
    have HBR : Hid (Blk ((w1.setCell ⟨w.heap.size, 0, none⟩ (.int .i64 q)).setCell ⟨w.heap.size, 1, none⟩ (.int .i64 0)) w.heap.size #[.int .i64 q, .int .i64 0] 36 ∧ Below w.heap.size w ((w1.setCell ⟨w.heap.size, 0, none⟩ (.int .i64 q)).setCell ⟨w.heap.size, 1, none⟩ (.int .i64 0))) := ⟨((BX.out.1.old hb1).set 0 _ rfl).set 1 _ rfl, ((BX.out.2.trans (hb1.mono (Nat.le_of_lt hX1))).setCell (Nat.le_refl _) _).setCell (Nat.le_refl _) _⟩
    go_wp2_with fail
    have s0 := HBR.out.1.cell (j := 0) (v := .int .i64 q) rfl
    have s1 := HBR.out.1.cell (j := 1) (v := .int .i64 0) rfl
    refine bodyPost_ret (v := .agg #[.int .i64 q, .int .i64 0]) ?_ rfl ⟨rfl, HBR.out.2⟩
    simp [results, Try.results51, go_sem, s0, s1]
  case pos =>
  subst hz
  obtain ⟨hm, hG⟩ := fine.out rfl
  have HM : Hid (m = Mt.wst L d P S n) := hm
  obtain rfl := hG.ns
  have HG : Hid (Mt.AGood L n ns ∧ (∀ k, k < ns → -12000 ≤ P k ∧ P k ≤ 12000) ∧ ∀ k, k < ns → 0 ≤ S k ∧ S k ≤ 1000) := ⟨hG.g, hG.pt, hG.sl⟩
  have hn20 : (n : Int) ≤ 20 := by have := hG.g.n20; omega
  have hd10 : (ns : Int) ≤ 10 := by have := hG.g.d10; omega
  clear hm bad fine hG
  go_upto_region 4 with (first | (go_at_call 91; refine HCl.mono ?_; rintro e w1 ⟨rfl, hb1⟩))
  have HB1 : Hid (Below X.heap.size X w1) := hb1
  clear hb1 HCl
  go_wp2_with fail
  go_loopw [8, 21] (fun u i wr => ∃ k : Nat, k ≤ n ∧ i = .int .i64 k ∧ u = .int .i64 (Mt.wst L ns P S k) ∧ Hid (Below X.heap.size X wr)) (fun _ i _ => n - (intOf i).toNat)
  case atStart => exact ⟨0, Nat.zero_le _, rfl, rfl, HB1⟩
  case round =>
    obtain ⟨k, hk, rfl, rfl, HB⟩ := hrel
    obtain ⟨s, hs⟩ : ∃ s, s = Mt.wst L ns P S k := ⟨_, rfl⟩
    have HBw : Hid (Below w.heap.size w wr) := BX.out.2.trans (HB.out.mono (Nat.le_of_lt hX1))
    by_cases hkn : k < n
    · obtain ⟨b, off, po, pc, rfl, hc, hp⟩ := (H wr HBw.out).out.1.at hkn
      obtain ⟨x, hx⟩ : ∃ x, x = L k := ⟨_, rfl⟩
      rw [HG.out.1.np k hkn, ← hx] at hc hp
      have c0 : wr.cell? ⟨b, off + k * 2, none⟩ = some (.slice po ns pc) := hc 0 (by omega)
      have c1 : wr.cell? ⟨b, off + k * 2 + 1, none⟩ = some (.int .i64 x.want) := hc 1 (by omega)
      obtain ⟨f, hf⟩ : ∃ f, f = Mt.off x P ns := ⟨_, rfl⟩
      obtain ⟨g, hg⟩ : ∃ g, g = Mt.ab f := ⟨_, rfl⟩
      obtain ⟨y, hy⟩ : ∃ y, y = Mt.sway x S ns := ⟨_, rfl⟩
      have hfb := Mt.off_b HG.out.1 (i := k) hkn HG.out.2.1 (Nat.le_refl ns)
      rw [← hx, ← hf] at hfb
      have hf0 : -120100000 ≤ f := by omega
      have hf1 : f ≤ 120100000 := by omega
      have hgb := Mt.ab_b hf0 hf1
      rw [← hg] at hgb
      have hyb := Mt.sway_b HG.out.1 (i := k) hkn HG.out.2.2 (Nat.le_refl ns)
      rw [← hx, ← hy] at hyb
      have hsb := Mt.wst_b HG.out.1 HG.out.2.1 HG.out.2.2 (Nat.le_of_lt hkn)
      rw [← hs] at hsb
      obtain ⟨z, hz⟩ : ∃ z, z = g + y := ⟨_, rfl⟩
      have hwz : wrap64 (g + y) = z := by rw [hz]; unfold wrap64; omega
      obtain ⟨s2, hs2⟩ : ∃ q, q = max s z := ⟨_, rfl⟩
      have HN : Hid (Mt.wst L ns P S (k + 1) = s2) := by show max (Mt.wst L ns P S k) (Mt.ab (Mt.off (L k) P ns) + Mt.sway (L k) S ns) = s2; rw [← hs, ← hx, ← hf, ← hg, ← hy, ← hz, hs2]
      have HG1 : Hid (Mt.AGood (fun _ => x) 1 ns) := by rw [hx]; exact one_good HG.out.1 hkn
      have hkI : (k : Int) < n := by omega
      rw [← hs]
      clear hc hx
      go_upto_region 8 with fail
      obtain ⟨u0, hu0⟩ : ∃ u, u = wr.alloc (.cells #[.slice po ns pc, .int .i64 x.want] 91) := ⟨_, rfl⟩
      obtain ⟨pb, hpb⟩ : ∃ p, p = wr.heap.size := ⟨_, rfl⟩
      have BS : Hid (Blk u0 pb #[.slice po ns pc, .int .i64 x.want] 91 ∧ Below wr.heap.size wr u0) := by rw [hu0, hpb]; exact ⟨Blk.new rfl, (Below.refl _ _).alloc (Nat.le_refl _) _⟩
      rw [← hu0, ← hpb]
      have hR : ∀ W, Below u0.heap.size u0 W → Below wr.heap.size wr W := fun W hb => BS.out.2.trans (hb.mono BS.out.2.size)
      have K0 := fun z : Kept u0.heap.size u0 => (BS.out.1.old z.h).cell (j := 0) (v := .slice po ns pc) rfl
      have K1 := fun z : Kept u0.heap.size u0 => (BS.out.1.old z.h).cell (j := 1) (v := .int .i64 x.want) rfl
      have C1 : ∀ z : Kept u0.heap.size u0, Calls Try.prog 92 #[.agg #[.slice po ns pc, .int .i64 x.want], .slice qo ns qc] z.w fun e w' => e = .returned (.int .i64 g) ∧ Below z.w.heap.size z.w w' := fun z => iSize_any (by rw [hg, hf]) HG1.out HG.out.2.1 (hp.later (hR _ z.h)) ((H wr HBw.out).out.2.1.later (hR _ z.h))
      have C2 : ∀ z : Kept u0.heap.size u0, Calls Try.prog 93 #[.agg #[.slice po ns pc, .int .i64 x.want], .slice so ns sc] z.w fun e w' => e = .returned (.int .i64 y) ∧ Below z.w.heap.size z.w w' := fun z => iSway_any hy HG1.out HG.out.2.2 (hp.later (hR _ z.h)) ((H wr HBw.out).out.2.2.later (hR _ z.h))
      have hmx : max s z = s2 := hs2.symm
      clear hp hf hg hy hz hgb hyb hsb hfb hs2 hs H hR hu0 hpb c0 c1
      refine wp_region_kept u0.heap.size (by kernel_rfl) (by kernel_rfl) ?_
      intro hne
      repeat (go_big_quiet_step (first | (go_at_call 92; exact Calls.kept_of (Nat.le_refl _) (C1 _)) | (go_at_call 93; exact Calls.kept_of (Nat.le_refl _) (C2 _))))
      refine wpQuiet_nil ?_
      rintro u1 ⟨xk, hxk⟩
      have hR1 := xk.h
      rw [← hxk] at hR1
      clear hxk xk hne K0 K1 C1 C2
      go_wp2
      go_roundw
      case rel => exact ⟨k + 1, by omega, by simp, by first | (rw [HN.out]; done) | (rw [HN.out, hmx]; done) | (rw [HN.out]; simp only [hwz, hmx]), HB.out.trans ((BS.out.2.trans (hR1.mono BS.out.2.size)).mono HB.out.size)⟩
      case measure => simp [intOf]; omega
    · obtain rfl : n = k := by omega
      have hC : m = s := by rw [hs]; exact HM.out
      rw [← hs, ← hC]
      clear hs hC H
      go_upto_region 10 with fail
      have r0 := (BX.out.1.old HB.out).cell (j := 0) (v := .int .i64 0) rfl
      have r1 := (BX.out.1.old HB.out).cell (j := 1) (v := .int .i64 0) rfl
      have rf := (BX.out.1.old HB.out).frozen
      have HBR : Hid (Blk ((wr.setCell ⟨w.heap.size, 0, none⟩ (.int .i64 0)).setCell ⟨w.heap.size, 1, none⟩ (.int .i64 m)) w.heap.size #[.int .i64 0, .int .i64 m] 36 ∧ Below w.heap.size w ((wr.setCell ⟨w.heap.size, 0, none⟩ (.int .i64 0)).setCell ⟨w.heap.size, 1, none⟩ (.int .i64 m))) := ⟨((BX.out.1.old HB.out).set 0 _ rfl).set 1 _ rfl, ((BX.out.2.trans (HB.out.mono (Nat.le_of_lt hX1))).setCell (Nat.le_refl _) _).setCell (Nat.le_refl _) _⟩
      go_wp2_with fail
      have s0 := HBR.out.1.cell (j := 0) (v := .int .i64 0) rfl
      have s1 := HBR.out.1.cell (j := 1) (v := .int .i64 m) rfl
      refine bodyPost_ret (v := .agg #[.int .i64 0, .int .i64 m]) ?_ rfl ⟨rfl, HBR.out.2⟩
      simp [results, Try.results51, go_sem, s0, s1]
set_option maxRecDepth 20000 in
set_option maxHeartbeats 6400000 in
theorem sWorst_any {w : World} {ao qo so : Option Addr} {n d ns cap qc sc : Nat} {L : Nat → Li} {P S : Nat → Int} {q m : Int} (hq : q = Mt.lcode L n d P ns S) (hm : m = Mt.worst L n d P ns S) (h : RdL w (.slice ao n cap) n L) (hp : RdRow w (.slice qo d qc) d P) (hs : RdRow w (.slice so ns sc) ns S) (hn : n ≤ 1048576) (hd : d ≤ 1048576) (hns : ns ≤ 1048576) :
    Calls Try.prog 50 #[.slice ao n cap, .slice qo d qc, .slice so ns sc] w fun e w' => e = .returned (.agg #[.int .i64 q, .int .i64 m]) ∧ Below w.heap.size w w' := by
  have H : ∀ W, Below w.heap.size w W → Hid (RdL W (.slice ao n cap) n L ∧ RdRow W (.slice qo d qc) d P ∧ RdRow W (.slice so ns sc) ns S) := fun W hb => ⟨h.later hb, hp.later hb, hs.later hb⟩
  have bad : q ≠ 0 → m = 0 := fun hz => by rw [hm]; unfold Mt.worst; rw [if_neg (by rw [← hq]; exact hz)]
  have fine : q = 0 → m = Mt.wst L d P S n ∧ Mt.LGood L n d P ns S := fun hz => ⟨by rw [hm]; unfold Mt.worst; rw [if_pos (by rw [← hq]; exact hz)], Mt.lgood (hq.symm.trans hz)⟩
  obtain ⟨X, hX⟩ : ∃ X, X = w.alloc (.cells #[.int .i64 0, .int .i64 0] 36) := ⟨_, rfl⟩
  have BX : Hid (Blk X w.heap.size #[.int .i64 0, .int .i64 0] 36 ∧ Below w.heap.size w X) := by rw [hX]; exact ⟨Blk.new rfl, (Below.refl _ _).alloc (Nat.le_refl _) _⟩
  have hX1 : w.heap.size < X.heap.size := BX.out.1.lt
  have HCl := sSlack_any hq (h.later BX.out.2) (hp.later BX.out.2) (hs.later BX.out.2) hn hd hns
  replace bad : Hid _ := bad
  replace fine : Hid _ := fine
  clear hq hm h hp hs
  go_enter Try.func50, Try.ntmps50
  go_wp2_with fail
  rw [← hX]
  clear hX
  by_cases hz : q = 0
  case neg =>
    have hm0 := bad.out hz
    subst hm0
    have hb : (q != 0) = true := by simpa using hz
    clear H hz
    go_upto_region 3 with (first | (go_at_call 88; refine HCl.mono ?_; rintro e w1 ⟨rfl, hb1⟩))
    have r0 := (BX.out.1.old hb1).cell (j := 0) (v := .int .i64 0) rfl
    have r1 := (BX.out.1.old hb1).cell (j := 1) (v := .int .i64 0) rfl
    have rf := (BX.out.1.old hb1).frozen
    have HBR : Hid (Blk ((w1.setCell ⟨w.heap.size, 0, none⟩ (.int .i64 q)).setCell ⟨w.heap.size, 1, none⟩ (.int .i64 0)) w.heap.size #[.int .i64 q, .int .i64 0] 36 ∧ Below w.heap.size w ((w1.setCell ⟨w.heap.size, 0, none⟩ (.int .i64 q)).setCell ⟨w.heap.size, 1, none⟩ (.int .i64 0))) := ⟨((BX.out.1.old hb1).set 0 _ rfl).set 1 _ rfl, ((BX.out.2.trans (hb1.mono (Nat.le_of_lt hX1))).setCell (Nat.le_refl _) _).setCell (Nat.le_refl _) _⟩
    go_wp2_with fail
    have s0 := HBR.out.1.cell (j := 0) (v := .int .i64 q) rfl
    have s1 := HBR.out.1.cell (j := 1) (v := .int .i64 0) rfl
    refine bodyPost_ret (v := .agg #[.int .i64 q, .int .i64 0]) ?_ rfl ⟨rfl, HBR.out.2⟩
    simp [results, Try.results50, go_sem, s0, s1]
  case pos =>
  subst hz
  obtain ⟨hm, hG⟩ := fine.out rfl
  have HM : Hid (m = Mt.wst L d P S n) := hm
  obtain rfl := hG.ns
  have HG : Hid (Mt.AGood L n ns ∧ (∀ k, k < ns → -12000 ≤ P k ∧ P k ≤ 12000) ∧ ∀ k, k < ns → 0 ≤ S k ∧ S k ≤ 1000) := ⟨hG.g, hG.pt, hG.sl⟩
  have hn20 : (n : Int) ≤ 20 := by have := hG.g.n20; omega
  have hd10 : (ns : Int) ≤ 10 := by have := hG.g.d10; omega
  clear hm bad fine hG
  go_upto_region 4 with (first | (go_at_call 88; refine HCl.mono ?_; rintro e w1 ⟨rfl, hb1⟩))
  have HB1 : Hid (Below X.heap.size X w1) := hb1
  clear hb1 HCl
  go_wp2_with fail
  go_loopw [8, 9] (fun u i wr => ∃ k : Nat, k ≤ n ∧ i = .int .i64 k ∧ u = .int .i64 (Mt.wst L ns P S k) ∧ Hid (Below X.heap.size X wr)) (fun _ i _ => n - (intOf i).toNat)
  case atStart => exact ⟨0, Nat.zero_le _, rfl, rfl, HB1⟩
  case round =>
    obtain ⟨k, hk, rfl, rfl, HB⟩ := hrel
    obtain ⟨s, hs⟩ : ∃ s, s = Mt.wst L ns P S k := ⟨_, rfl⟩
    have HBw : Hid (Below w.heap.size w wr) := BX.out.2.trans (HB.out.mono (Nat.le_of_lt hX1))
    by_cases hkn : k < n
    · obtain ⟨b, off, po, pc, rfl, hc, hp⟩ := (H wr HBw.out).out.1.at hkn
      obtain ⟨x, hx⟩ : ∃ x, x = L k := ⟨_, rfl⟩
      rw [HG.out.1.np k hkn, ← hx] at hc hp
      have c0 : wr.cell? ⟨b, off + k * 2, none⟩ = some (.slice po ns pc) := hc 0 (by omega)
      have c1 : wr.cell? ⟨b, off + k * 2 + 1, none⟩ = some (.int .i64 x.want) := hc 1 (by omega)
      obtain ⟨f, hf⟩ : ∃ f, f = Mt.off x P ns := ⟨_, rfl⟩
      obtain ⟨g, hg⟩ : ∃ g, g = Mt.ab f := ⟨_, rfl⟩
      obtain ⟨y, hy⟩ : ∃ y, y = Mt.sway x S ns := ⟨_, rfl⟩
      have hfb := Mt.off_b HG.out.1 (i := k) hkn HG.out.2.1 (Nat.le_refl ns)
      rw [← hx, ← hf] at hfb
      have hf0 : -120100000 ≤ f := by omega
      have hf1 : f ≤ 120100000 := by omega
      have hgb := Mt.ab_b hf0 hf1
      rw [← hg] at hgb
      have hyb := Mt.sway_b HG.out.1 (i := k) hkn HG.out.2.2 (Nat.le_refl ns)
      rw [← hx, ← hy] at hyb
      have hsb := Mt.wst_b HG.out.1 HG.out.2.1 HG.out.2.2 (Nat.le_of_lt hkn)
      rw [← hs] at hsb
      obtain ⟨z, hz⟩ : ∃ z, z = g + y := ⟨_, rfl⟩
      have hwz : wrap64 (g + y) = z := by rw [hz]; unfold wrap64; omega
      obtain ⟨s2, hs2⟩ : ∃ q, q = max s z := ⟨_, rfl⟩
      have HN : Hid (Mt.wst L ns P S (k + 1) = s2) := by show max (Mt.wst L ns P S k) (Mt.ab (Mt.off (L k) P ns) + Mt.sway (L k) S ns) = s2; rw [← hs, ← hx, ← hf, ← hg, ← hy, ← hz, hs2]
      have HG1 : Hid (Mt.AGood (fun _ => x) 1 ns) := by rw [hx]; exact one_good HG.out.1 hkn
      have hkI : (k : Int) < n := by omega
      rw [← hs]
      have HCl : ∀ W, Below wr.heap.size wr W → Calls Try.prog 70 #[.agg #[.slice po ns pc, .int .i64 x.want], .slice qo ns qc] W fun e w' => e = .returned (.int .i64 f) ∧ Below W.heap.size W w' := fun W hb => by
        rw [hf]
        exact sOff_any HG1.out HG.out.2.1 (hp.later hb) ((H wr HBw.out).out.2.1.later hb)
      have HAb : ∀ W, Calls Try.prog 89 #[.int .i64 f] W fun e w' => e = .returned (.int .i64 g) ∧ W = w' := fun W => sAbs_any hg (by omega) (by omega) W
      have HRS : ∀ W, Below wr.heap.size wr W → Hid (RdRow W (.slice po ns pc) ns x.p ∧ RdRow W (.slice so ns sc) ns S ∧ W.cell? ⟨b, off + k * 2, none⟩ = some (.slice po ns pc)) := fun W hb => ⟨hp.later hb, (H wr HBw.out).out.2.2.later hb, kold hb c0⟩
      have HZ : Hid (g + y = z ∧ y = Mt.sway x S ns ∧ max s z = s2 ∧ 0 ≤ g ∧ g ≤ 120100000) := ⟨hz.symm, hy, hs2.symm, hgb⟩
      clear hc hp hf hg hy hz hgb hyb hsb hfb hs2 hs H hx
      go_upto_region 9 with (first | (go_at_call 70; refine (HCl _ (by go_grown)).mono ?_; rintro e w3 ⟨rfl, hb3⟩) | (go_at_call 89; refine (HAb _).mono ?_; rintro e w4 ⟨rfl, rfl⟩))
      obtain ⟨wo, rfl⟩ : ∃ v, v = wr := ⟨_, rfl⟩
      have HB3 : Hid (Below wo.heap.size wo w3) := hb3
      clear hb3 HCl HAb c0 c1
      go_wp2_with fail
      go_loopw [10, 11] (fun u i wr => ∃ j : Nat, j ≤ ns ∧ i = .int .i64 j ∧ u = .int .i64 (g + Mt.sway x S j) ∧ Hid (Below wo.heap.size wo wr)) (fun _ i _ => ns - (intOf i).toNat)
      case atStart => exact ⟨0, Nat.zero_le _, rfl, by simp [Mt.sway], HB3⟩
      case round =>
        obtain ⟨j, hj, rfl, rfl, HBq⟩ := hrel
        obtain ⟨t, ht⟩ : ∃ t, t = g + Mt.sway x S j := ⟨_, rfl⟩
        by_cases hjn : j < ns
        · obtain ⟨h1, h2, h3⟩ := (HRS wr HBq.out).out
          obtain ⟨rb, rof, rfl, hcr⟩ := h1.at hjn
          obtain ⟨sb, sof, rfl, hcs⟩ := h2.at hjn
          obtain ⟨v, hv⟩ : ∃ v, v = x.p j := ⟨_, rfl⟩
          obtain ⟨u, hu⟩ : ∃ v, v = S j := ⟨_, rfl⟩
          rw [← hv] at hcr
          rw [← hu] at hcs
          obtain ⟨a, ha⟩ : ∃ a, a = Mt.ab v := ⟨_, rfl⟩
          have hvb := HG1.out.row 0 (by omega) j hjn
          rw [← hv] at hvb
          obtain ⟨p, hp⟩ : ∃ p, p = a * u := ⟨_, rfl⟩
          have hpb := Mt.swp_b HG1.out (S := S) (i := 0) (by omega) hjn (HG.out.2.2 j hjn)
          rw [← hv, ← hu, ← ha, ← hp] at hpb
          have hsb := Mt.sway_b HG1.out (i := 0) (by omega) HG.out.2.2 (Nat.le_of_lt hjn)
          have hjd : (j : Int) ≤ 10 := by omega
          obtain ⟨-, -, -, hg0, hg1⟩ := HZ.out
          have htb : 0 ≤ t ∧ t ≤ 140000000 := by rw [ht]; omega
          have hw1 : wrap64 (a * u) = p := by rw [← hp]; unfold wrap64; omega
          obtain ⟨t2, ht2⟩ : ∃ q, q = t + p := ⟨_, rfl⟩
          have hw2 : wrap64 (t + p) = t2 := by rw [ht2]; unfold wrap64; omega
          have HT : Hid (g + Mt.sway x S (j + 1) = t2) := by
            show g + (Mt.sway x S j + Mt.ab (x.p j) * S j) = t2
            rw [← hv, ← hu, ← ha, ← hp, ht2, ht]
            omega
          have hjI : (j : Int) < ns := by omega
          have K0 := fun z : Kept wr.heap.size wr => kold z.h h3
          have K1 := fun z : Kept wr.heap.size wr => kold z.h hcr
          have K2 := fun z : Kept wr.heap.size wr => kold z.h hcs
          have CA : ∀ z : Kept wr.heap.size wr, Calls Try.prog 89 #[.int .i64 v] z.w fun e w' => e = .returned (.int .i64 a) ∧ Below z.w.heap.size z.w w' := fun z => (sAbs_any ha (by omega) (by omega) z.w).mono fun e w' h => ⟨h.1, by rw [← h.2]; exact Below.refl _ _⟩
          rw [← ht]
          clear h1 h2 h3 hv hu ha hvb hp hpb hsb hg0 hg1 htb ht2 ht hcr hcs HRS
          go_upto_region 12 with fail
          refine wp_region_kept wr.heap.size (by kernel_rfl) (by kernel_rfl) ?_
          intro hne
          repeat (go_big_quiet_step (first | (go_at_call 89; exact Calls.kept_of (Nat.le_refl _) (CA _))))
          refine wpQuiet_nil ?_
          rintro u1 ⟨xk, hxk⟩
          have hR1 := xk.h
          rw [← hxk] at hR1
          clear hxk xk hne K0 K1 K2 CA
          go_wp2
          go_roundw
          case rel => exact ⟨j + 1, by omega, by simp, by first | (rw [HT.out]; done) | (rw [HT.out, hw2]; done) | (rw [HT.out]; simp only [hw1, hw2]), HBq.out.trans (hR1.mono HBq.out.size)⟩
          case measure => simp [intOf]; omega
        · obtain rfl : j = ns := by omega
          have htz : t = z := by rw [ht, ← HZ.out.1, HZ.out.2.1]
          rw [← ht, htz]
          have hmx := HZ.out.2.2.1
          clear ht htz HRS
          go_wp2_with (first | (go_at_call 90; refine (sMost_any s z _).mono ?_; rintro e w5 ⟨rfl, rfl⟩; rw [hmx]))
          go_roundw
          case rel => exact ⟨k + 1, by omega, by simp, by rw [HN.out], HB.out.trans (HBq.out.mono HB.out.size)⟩
          case measure => simp [intOf]; omega
    · obtain rfl : n = k := by omega
      have hC : m = s := by rw [hs]; exact HM.out
      rw [← hs, ← hC]
      clear hs hC H
      go_upto_region 14 with fail
      have r0 := (BX.out.1.old HB.out).cell (j := 0) (v := .int .i64 0) rfl
      have r1 := (BX.out.1.old HB.out).cell (j := 1) (v := .int .i64 0) rfl
      have rf := (BX.out.1.old HB.out).frozen
      have HBR : Hid (Blk ((wr.setCell ⟨w.heap.size, 0, none⟩ (.int .i64 0)).setCell ⟨w.heap.size, 1, none⟩ (.int .i64 m)) w.heap.size #[.int .i64 0, .int .i64 m] 36 ∧ Below w.heap.size w ((wr.setCell ⟨w.heap.size, 0, none⟩ (.int .i64 0)).setCell ⟨w.heap.size, 1, none⟩ (.int .i64 m))) := ⟨((BX.out.1.old HB.out).set 0 _ rfl).set 1 _ rfl, ((BX.out.2.trans (HB.out.mono (Nat.le_of_lt hX1))).setCell (Nat.le_refl _) _).setCell (Nat.le_refl _) _⟩
      go_wp2_with fail
      have s0 := HBR.out.1.cell (j := 0) (v := .int .i64 0) rfl
      have s1 := HBR.out.1.cell (j := 1) (v := .int .i64 m) rfl
      refine bodyPost_ret (v := .agg #[.int .i64 0, .int .i64 m]) ?_ rfl ⟨rfl, HBR.out.2⟩
      simp [results, Try.results50, go_sem, s0, s1]
end Go.Proofs.Ytelejihgechmgaa
