/- What is wrong with aims, in both packages: contracts. -/
import Derived.Test.YtelejihgechmgaaAm
import Derived.Test.YtelejihgechmgaaSf
import Derived.Test.YtelejihgechmgaaCs
namespace Go.Proofs.Ytelejihgechmgaa
open Go.RowKit
set_option linter.unusedVariables false
set_option linter.unusedSimpArgs false
set_option maxRecDepth 20000 in
set_option maxHeartbeats 6400000 in
theorem sAims_any {w : World} {ao : Option Addr} {n cap : Nat} {L : Nat → Li} {dims : Int} (h : RdL w (.slice ao n cap) n L) (hn : n ≤ 1048576) :
    Calls Try.prog 29 #[.slice ao n cap, .int .i64 dims] w fun e w' => e = .returned (.int .i64 (Mt.acode L n dims)) ∧ w = w' := by
  have H : Hid (RdL w (.slice ao n cap) n L) := h
  clear h
  have hnI : (n : Int) ≤ 1048576 := by omega
  obtain ⟨C, hC⟩ : ∃ C, C = Mt.acode L n dims := ⟨_, rfl⟩
  have HC : Hid (C = Mt.acode L n dims) := hC
  rw [← hC]
  clear hC
  cases hdj : Mt.inR dims 1 10 with
  | false =>
    have hs : Hid (C = 1) := by show C = 1; rw [HC.out]; unfold Mt.acode; rw [hdj]; rfl
    go_enter Try.func29, Try.ntmps29
    go_wp2_with (first | (go_at_call 55; refine (sIn_any dims 1 10 _).mono ?_; rintro e w1 ⟨rfl, rfl⟩; rw [hdj]))
    go_ret
    exact ⟨by rw [hs.out]; rfl, rfl⟩
  | true =>
  by_cases hlong : 20 < n
  · have hs : Hid (C = 2) := by show C = 2; rw [HC.out]; unfold Mt.acode; rw [hdj, if_pos rfl, if_pos hlong]
    have hlI : (20 : Int) < n := by omega
    go_enter Try.func29, Try.ntmps29
    go_wp2_with (first | (go_at_call 55; refine (sIn_any dims 1 10 _).mono ?_; rintro e w1 ⟨rfl, rfl⟩; rw [hdj]))
    go_ret
    exact ⟨by rw [hs.out]; rfl, rfl⟩
  have HDJ : Hid (Mt.inR dims 1 10 = true) := hdj
  have HA : Hid (Mt.acode L n dims = Mt.fst (fun k => Mt.aone dims (L k)) n) := by show _ = _; unfold Mt.acode; rw [hdj, if_pos rfl, if_neg hlong]
  have hd10 := Mt.inR_iff.1 hdj
  have hsI : (n : Int) ≤ 20 := by omega
  clear hdj
  go_enter Try.func29, Try.ntmps29
  go_wp2_with (first | (go_at_call 55; refine (sIn_any dims 1 10 _).mono ?_; rintro e w1 ⟨rfl, rfl⟩; rw [HDJ.out]))
  go_loopw [5] (fun i wr => wr = w ∧ ∃ k : Nat, k ≤ n ∧ i = .int .i64 k ∧ Hid (Mt.fst (fun k => Mt.aone dims (L k)) k = 0)) (fun i _ => n - (intOf i).toNat)
  case atStart => exact ⟨rfl, 0, Nat.zero_le _, rfl, rfl⟩
  case round =>
    obtain ⟨rfl, k, hk, rfl, HF⟩ := hrel
    by_cases hkn : k < n
    · obtain ⟨b, off, po, pc, rfl, hc, hp⟩ := H.out.at hkn
      obtain ⟨x, hx⟩ : ∃ x, x = L k := ⟨_, rfl⟩
      obtain ⟨m, hm⟩ : ∃ m, m = (L k).np := ⟨_, rfl⟩
      rw [← hm, ← hx] at hc hp
      have c0 : wr.cell? ⟨b, off + k * 2, none⟩ = some (.slice po m pc) := hc 0 (by omega)
      have c1 : wr.cell? ⟨b, off + k * 2 + 1, none⟩ = some (.int .i64 x.want) := hc 1 (by omega)
      have HX : Hid (x = L k ∧ m = x.np) := ⟨hx, by rw [hx]; exact hm⟩
      have HP : Hid (RdRow wr (.slice po m pc) m x.p) := hp
      have hkI : (k : Int) < n := by omega
      have hit : ∀ q : Int, q ≠ 0 → Mt.aone dims x = q → C = q := fun q hq e => by
        have e' : Mt.aone dims (L k) = q := by rw [← HX.out.1]; exact e
        rw [HC.out, HA.out]
        exact (Mt.fst_hit HF.out (by show Mt.aone dims (L k) ≠ 0; rw [e']; exact hq) hkn).trans e'
      have pass : Mt.aone dims x = 0 → Hid (Mt.fst (fun k => Mt.aone dims (L k)) (k + 1) = 0) := fun e => Mt.fst_next HF.out (by show Mt.aone dims (L k) = 0; rw [← HX.out.1]; exact e)
      replace hit : Hid _ := hit
      replace pass : Hid _ := pass
      clear hc hp hx hm
      by_cases hd : (m : Int) = dims
      case neg =>
        have hs : Hid (C = 1) := hit.out 1 (by decide) (by unfold Mt.aone; rw [if_neg (by rw [← HX.out.2]; exact hd)])
        have hb : ((m : Int) != dims) = true := by simpa using hd
        clear hd
        go_wp2
        go_ret
        exact ⟨by rw [hs.out]; rfl, rfl⟩
      case pos =>
      have HD : Hid ((x.np : Int) = dims) := by show (x.np : Int) = dims; rw [← HX.out.2]; exact hd
      have hb : ((m : Int) != dims) = false := by simpa using hd
      go_wp2_with fail
      go_loopw [6] (fun i wq => wq = wr ∧ ∃ j : Nat, j ≤ m ∧ i = .int .i64 j ∧ Hid (Mt.all (fun j => Mt.inR (x.p j) (-1000) 1000) j = true)) (fun i _ => m - (intOf i).toNat)
      case atStart => exact ⟨rfl, 0, Nat.zero_le _, rfl, rfl⟩
      case round =>
        obtain ⟨rfl, j, hjm, rfl, HJ⟩ := hrel
        by_cases hjn : j < m
        · obtain ⟨rb, ro, rfl, hcr⟩ := HP.out.at hjn
          have hjI : (j : Int) < dims := by omega
          have hjI2 : (j : Int) < m := by omega
          obtain ⟨v, hv⟩ : ∃ v, v = x.p j := ⟨_, rfl⟩
          rw [← hv] at hcr
          have HV : Hid (v = x.p j) := hv
          clear hv
          cases hq : Mt.inR v (-1000) 1000 with
          | true =>
            have HJ2 : Hid (Mt.all (fun j => Mt.inR (x.p j) (-1000) 1000) (j + 1) = true) := Mt.all_next HJ.out (by show Mt.inR (x.p j) (-1000) 1000 = true; rw [← HV.out]; exact hq)
            go_wp2_with (first | (go_at_call 55; refine (sIn_any v (-1000) 1000 _).mono ?_; rintro e w1 ⟨rfl, rfl⟩; rw [hq]))
            go_roundw
            case rel => exact ⟨by trivial, j + 1, by omega, by simp, HJ2⟩
            case measure => simp [intOf]; omega
          | false =>
            have hA : Mt.all (fun j => Mt.inR (x.p j) (-1000) 1000) x.np = false := Mt.all_hit (by rw [← HX.out.2]; exact hjn) (by show Mt.inR (x.p j) (-1000) 1000 = false; rw [← HV.out]; exact hq)
            have hs : Hid (C = 3) := hit.out 3 (by decide) (by unfold Mt.aone; rw [if_pos HD.out, hA]; rfl)
            clear hA
            go_wp2_with (first | (go_at_call 55; refine (sIn_any v (-1000) 1000 _).mono ?_; rintro e w1 ⟨rfl, rfl⟩; rw [hq]))
            go_ret
            exact ⟨by rw [hs.out]; rfl, rfl⟩
        · obtain rfl : m = j := by omega
          have hjI : ¬ (m : Int) < dims := by omega
          have HJ' : Hid (Mt.all (fun j => Mt.inR (x.p j) (-1000) 1000) x.np = true) := by show _ = _; rw [← HX.out.2]; exact HJ.out
          cases hq : Mt.inR x.want (-100000) 100000 with
          | true =>
            have HF2 := pass.out (by unfold Mt.aone; rw [if_pos HD.out, if_pos HJ'.out, if_pos hq])
            go_wp2_with (first | (go_at_call 55; refine (sIn_any x.want (-100000) 100000 _).mono ?_; rintro e w1 ⟨rfl, rfl⟩; rw [hq]))
            go_roundw
            case rel => exact ⟨by trivial, k + 1, by omega, by simp, HF2⟩
            case measure => simp [intOf]; omega
          | false =>
            have hs : Hid (C = 3) := hit.out 3 (by decide) (by unfold Mt.aone; rw [if_pos HD.out, if_pos HJ'.out, hq]; rfl)
            go_wp2_with (first | (go_at_call 55; refine (sIn_any x.want (-100000) 100000 _).mono ?_; rintro e w1 ⟨rfl, rfl⟩; rw [hq]))
            go_ret
            exact ⟨by rw [hs.out]; rfl, rfl⟩
    · obtain rfl : n = k := by omega
      have hs : Hid (C = 0) := by show C = 0; rw [HC.out, HA.out]; exact HF.out
      go_wp2
      go_ret
      exact ⟨by rw [hs.out]; rfl, rfl⟩
set_option maxRecDepth 20000 in
set_option maxHeartbeats 6400000 in
theorem iAim_any {x : Li} {dims : Int} {po : Option Addr} {m pc : Nat} {w : World} (hx : m = x.np) (h : RdRow w (.slice po m pc) m x.p) (hm : (m : Int) = dims → m ≤ 1048576) :
    Calls Try.prog 68 #[.agg #[.slice po m pc, .int .i64 x.want], .int .i64 dims] w fun e w' => e = .returned (.int .i64 (Mt.aone dims x)) ∧ Below w.heap.size w w' := by
  have HR : ∀ W, Below w.heap.size w W → Hid (RdRow W (.slice po m pc) m x.p) := fun W hb => h.later hb
  clear h
  obtain ⟨X, hX⟩ : ∃ X, X = w.alloc (.cells #[.slice po m pc, .int .i64 x.want] 91) := ⟨_, rfl⟩
  have BX : Hid (Blk X w.heap.size #[.slice po m pc, .int .i64 x.want] 91 ∧ Below w.heap.size w X) := by rw [hX]; exact ⟨Blk.new rfl, (Below.refl _ _).alloc (Nat.le_refl _) _⟩
  have hX1 : w.heap.size < X.heap.size := BX.out.1.lt
  obtain ⟨C, hC⟩ : ∃ C, C = Mt.aone dims x := ⟨_, rfl⟩
  have HC : Hid (C = Mt.aone dims x ∧ m = x.np) := ⟨hC, hx⟩
  rw [← hC]
  clear hC hx
  have e0 := BX.out.1.cell (j := 0) (v := .slice po m pc) rfl
  by_cases hd : (m : Int) = dims
  case neg =>
    have hs : Hid (C = 1) := by show C = 1; rw [HC.out.1]; unfold Mt.aone; rw [if_neg (by rw [← HC.out.2]; exact hd)]
    have hb : ((m : Int) != dims) = true := by simpa using hd
    clear hd HR
    go_enter Try.func68, Try.ntmps68
    go_wp2_with fail
    rw [← hX]
    clear hX
    go_wp2
    go_ret
    exact ⟨by rw [hs.out]; rfl, BX.out.2⟩
  case pos =>
    have HE : Hid (Mt.fst (Mt.at4 (if Mt.all (fun k => Mt.inR (x.p k) (-1000) 1000) m then 0 else 3) (if Mt.all (fun k => Mt.inR x.want (-100000) 100000) 1 then 0 else 3) 0 0) 2 = C) := by
      show _ = C
      have e1 : Mt.aone dims x = if Mt.all (fun k => Mt.inR (x.p k) (-1000) 1000) m then (if Mt.inR x.want (-100000) 100000 then 0 else 3) else 3 := by
        unfold Mt.aone
        rw [if_pos (by rw [← HC.out.2]; exact hd), show m = x.np from HC.out.2]
      rw [HC.out.1, e1, Mt.fst2]
      show (if (if Mt.all (fun k => Mt.inR (x.p k) (-1000) 1000) m then 0 else 3) = 0 then (if Mt.all (fun k => Mt.inR x.want (-100000) 100000) 1 then 0 else 3) else (if Mt.all (fun k => Mt.inR (x.p k) (-1000) 1000) m then 0 else 3)) = _
      rw [Mt.all1]
      cases Mt.all (fun k => Mt.inR (x.p k) (-1000) 1000) m <;> rfl
    have hb : ((m : Int) != dims) = false := by simpa using hd
    replace hm := hm hd
    clear hd
    go_enter Try.func68, Try.ntmps68
    go_wp2_with fail
    rw [← hX]
    clear hX
    go_upto_region 3 with fail
    clear e0
    refine wp_region_pr (by kernel_rfl) [10, 11, 12, 13, 14, 15, 16, 17, 18, 19, 20, 4] (fun i v W => match i with
      | 0 => Bnd W v (-1000) (1000) 3
      | 1 => v = .pointer (some ⟨w.heap.size, 0, none⟩)
      | 2 => v = .slice po m pc
      | 3 => v = .int .i64 ((if Mt.all (fun k => Mt.inR (x.p k) (-1000) 1000) m then 0 else 3))
      | 4 => Bnd W v (-100000) (100000) 3
      | 5 => v = .pointer (some ⟨w.heap.size, 1, none⟩)
      | 6 => v = .int .i64 x.want
      | 7 => Lst W v 1 (fun _ => x.want)
      | 8 => v = .int .i64 ((if Mt.all (fun k => Mt.inR x.want (-100000) 100000) 1 then 0 else 3))
      | 9 => Lst W v 2 (Mt.at4 (if Mt.all (fun k => Mt.inR (x.p k) (-1000) 1000) m then 0 else 3) (if Mt.all (fun k => Mt.inR x.want (-100000) 100000) 1 then 0 else 3) 0 0)
      | 10 => v = .int .i64 (Mt.fst (Mt.at4 (if Mt.all (fun k => Mt.inR (x.p k) (-1000) 1000) m then 0 else 3) (if Mt.all (fun k => Mt.inR x.want (-100000) 100000) 1 then 0 else 3) 0 0) 2)
      | 11 => v = .int .i64 (Mt.fst (Mt.at4 (if Mt.all (fun k => Mt.inR (x.p k) (-1000) 1000) m then 0 else 3) (if Mt.all (fun k => Mt.inR x.want (-100000) 100000) 1 then 0 else 3) 0 0) 2)
      | _ => True) (reg_ok (n := 21) (by decide +kernel)) ?_ ?_ ?_
    · intro i v W W2 h hb
      rcases (show i = 0 ∨ i = 1 ∨ i = 2 ∨ i = 3 ∨ i = 4 ∨ i = 5 ∨ i = 6 ∨ i = 7 ∨ i = 8 ∨ i = 9 ∨ i = 10 ∨ i = 11 ∨ 12 ≤ i by omega) with rfl | rfl | rfl | rfl | rfl | rfl | rfl | rfl | rfl | rfl | rfl | rfl | hbig
      · exact Bnd.later h hb
      · exact h
      · exact h
      · exact h
      · exact Bnd.later h hb
      · exact h
      · exact h
      · exact Lst.later h hb
      · exact h
      · exact Lst.later h hb
      · exact h
      · exact h
      · match i, hbig with | k + 12, _ => exact trivial
    · intro i o ho b W hB hbase hdep K hK
      replace hK : Hid _ := hK
      have hlt : i < 12 := by have := (List.getElem?_eq_some_iff.1 ho).1; simpa using this
      have n2 : b.tmps[2]?.getD undef = .pointer (some ⟨w.heap.size, 0, none⟩) := (hbase 2 (by decide)).trans rfl
      clear hbase
      rcases (show i = 0 ∨ i = 1 ∨ i = 2 ∨ i = 3 ∨ i = 4 ∨ i = 5 ∨ i = 6 ∨ i = 7 ∨ i = 8 ∨ i = 9 ∨ i = 10 ∨ i = 11 by omega) with rfl | rfl | rfl | rfl | rfl | rfl | rfl | rfl | rfl | rfl | rfl | rfl
      · simp at ho
        subst ho
        clear hdep
        go_simp
        go_at_call 62
        refine (either_any (1000) (by omega) (by omega) _).mono ?_
        rintro e W2 ⟨v, rfl, hv, hb⟩
        exact hK.out _ _ hb hv
      · simp at ho
        subst ho
        clear hdep
        go_simp
        exact hK.out _ _ (Below.refl _ _) rfl
      · simp at ho
        subst ho
        have d1 := hdep ⟨1, .data⟩ (by simp) (by decide)
        replace d1 : (fun (v : Value) (W : World) => v = .pointer (some ⟨w.heap.size, 0, none⟩)) (b.tmps[11]?.getD undef) W := d1
        dsimp only at d1
        clear hdep
        have hc : W.cell? ⟨w.heap.size, 0, none⟩ = some (.slice po m pc) := (BX.out.1.old hB).cell rfl
        go_simp
        exact hK.out _ _ (Below.refl _ _) rfl
      · simp at ho
        subst ho
        have d0 := hdep ⟨0, .data⟩ (by simp) (by decide)
        replace d0 : (fun (v : Value) (W : World) => Bnd W v (-1000) (1000) 3) (b.tmps[10]?.getD undef) W := d0
        dsimp only at d0
        have d2 := hdep ⟨2, .data⟩ (by simp) (by decide)
        replace d2 : (fun (v : Value) (W : World) => v = .slice po m pc) (b.tmps[12]?.getD undef) W := d2
        dsimp only at d2
        clear hdep
        have hr := (HR W (BX.out.2.trans (hB.mono (Nat.le_of_lt hX1)))).out
        obtain ⟨bv, hbv⟩ : ∃ v, v = b.tmps[10]?.getD undef := ⟨_, rfl⟩
        rw [← hbv] at d0
        replace hbv := hbv.symm
        replace hr : Hid _ := hr
        go_simp
        go_at_call 63
        refine (fault_any d0 hr.out hm).mono ?_
        rintro e W2 ⟨rfl, hb⟩
        exact hK.out _ _ hb rfl
      · simp at ho
        subst ho
        clear hdep
        go_simp
        go_at_call 62
        refine (either_any (100000) (by omega) (by omega) _).mono ?_
        rintro e W2 ⟨v, rfl, hv, hb⟩
        exact hK.out _ _ hb hv
      · simp at ho
        subst ho
        clear hdep
        go_simp
        exact hK.out _ _ (Below.refl _ _) rfl
      · simp at ho
        subst ho
        have d5 := hdep ⟨5, .data⟩ (by simp) (by decide)
        replace d5 : (fun (v : Value) (W : World) => v = .pointer (some ⟨w.heap.size, 1, none⟩)) (b.tmps[15]?.getD undef) W := d5
        dsimp only at d5
        clear hdep
        have hc : W.cell? ⟨w.heap.size, 1, none⟩ = some (.int .i64 x.want) := (BX.out.1.old hB).cell rfl
        go_simp
        exact hK.out _ _ (Below.refl _ _) rfl
      · simp at ho
        subst ho
        have d6 := hdep ⟨6, .data⟩ (by simp) (by decide)
        replace d6 : (fun (v : Value) (W : World) => v = .int .i64 x.want) (b.tmps[16]?.getD undef) W := d6
        dsimp only at d6
        clear hdep
        go_simp
        refine hK.out _ _ ((Below.refl _ _).alloc (Nat.le_refl _) _) ⟨_, rfl, fun i hi => ?_⟩
        rcases (show i = 0 by omega) with rfl <;> (go_simp; try rfl)
      · simp at ho
        subst ho
        have d4 := hdep ⟨4, .data⟩ (by simp) (by decide)
        replace d4 : (fun (v : Value) (W : World) => Bnd W v (-100000) (100000) 3) (b.tmps[14]?.getD undef) W := d4
        dsimp only at d4
        have d7 := hdep ⟨7, .data⟩ (by simp) (by decide)
        replace d7 : (fun (v : Value) (W : World) => Lst W v 1 (fun _ => x.want)) (b.tmps[17]?.getD undef) W := d7
        dsimp only at d7
        clear hdep
        obtain ⟨lb, el, hl⟩ := d7
        have hr : RdRow W (.slice (some ⟨lb, 0, none⟩) 1 1) 1 (fun _ => x.want) := Lst.rd ⟨lb, rfl, hl⟩
        clear hl
        obtain ⟨bv, hbv⟩ : ∃ v, v = b.tmps[14]?.getD undef := ⟨_, rfl⟩
        rw [← hbv] at d4
        replace hbv := hbv.symm
        go_simp
        go_at_call 63
        refine (fault_any d4 hr (by omega)).mono ?_
        rintro e W2 ⟨rfl, hb⟩
        exact hK.out _ _ hb rfl
      · simp at ho
        subst ho
        have d3 := hdep ⟨3, .data⟩ (by simp) (by decide)
        replace d3 : (fun (v : Value) (W : World) => v = .int .i64 ((if Mt.all (fun k => Mt.inR (x.p k) (-1000) 1000) m then 0 else 3))) (b.tmps[13]?.getD undef) W := d3
        dsimp only at d3
        have d8 := hdep ⟨8, .data⟩ (by simp) (by decide)
        replace d8 : (fun (v : Value) (W : World) => v = .int .i64 ((if Mt.all (fun k => Mt.inR x.want (-100000) 100000) 1 then 0 else 3))) (b.tmps[18]?.getD undef) W := d8
        dsimp only at d8
        clear hdep
        go_simp
        refine hK.out _ _ ((Below.refl _ _).alloc (Nat.le_refl _) _) ⟨_, rfl, fun i hi => ?_⟩
        rcases (show i = 0 ∨ i = 1 by omega) with rfl | rfl <;> (go_simp; try rfl)
      · simp at ho
        subst ho
        have d9 := hdep ⟨9, .data⟩ (by simp) (by decide)
        replace d9 : (fun (v : Value) (W : World) => Lst W v 2 (Mt.at4 (if Mt.all (fun k => Mt.inR (x.p k) (-1000) 1000) m then 0 else 3) (if Mt.all (fun k => Mt.inR x.want (-100000) 100000) 1 then 0 else 3) 0 0)) (b.tmps[19]?.getD undef) W := d9
        dsimp only at d9
        clear hdep
        obtain ⟨lb, el, hl⟩ := d9
        have hr : RdRow W (.slice (some ⟨lb, 0, none⟩) 2 2) 2 (Mt.at4 (if Mt.all (fun k => Mt.inR (x.p k) (-1000) 1000) m then 0 else 3) (if Mt.all (fun k => Mt.inR x.want (-100000) 100000) 1 then 0 else 3) 0 0) := Lst.rd ⟨lb, rfl, hl⟩
        clear hl
        go_simp
        go_at_call 61
        refine (or_any hr (by omega)).mono ?_
        rintro e W2 ⟨rfl, hb⟩
        exact hK.out _ _ hb rfl
      · simp at ho
        subst ho
        have d10 := hdep ⟨10, .data⟩ (by simp) (by decide)
        replace d10 : (fun (v : Value) (W : World) => v = .int .i64 (Mt.fst (Mt.at4 (if Mt.all (fun k => Mt.inR (x.p k) (-1000) 1000) m then 0 else 3) (if Mt.all (fun k => Mt.inR x.want (-100000) 100000) 1 then 0 else 3) 0 0) 2)) (b.tmps[20]?.getD undef) W := d10
        dsimp only at d10
        clear hdep
        go_simp
        exact hK.out _ _ (Below.refl _ _) rfl
    · intro vs W hB hP
      have v11 := hP 11 (by decide)
      replace v11 : (fun (v : Value) (W : World) => v = .int .i64 (Mt.fst (Mt.at4 (if Mt.all (fun k => Mt.inR (x.p k) (-1000) 1000) m then 0 else 3) (if Mt.all (fun k => Mt.inR x.want (-100000) 100000) 1 then 0 else 3) 0 0) 2)) (vs 11) W := v11
      dsimp only at v11
      clear hP
      simp only [putD, Act.put, List.setIfInBounds_toArray, List.set_cons_succ, List.set_cons_zero, Nat.reduceAdd]
      rw [v11, HE.out]
      clear v11 HE
      go_wp2
      go_ret
      exact ⟨rfl, BX.out.2.trans (hB.mono (Nat.le_of_lt hX1))⟩
set_option maxRecDepth 20000 in
set_option maxHeartbeats 6400000 in
theorem iAims_any {w : World} {ao : Option Addr} {n cap : Nat} {L : Nat → Li} {dims : Int} (h : RdL w (.slice ao n cap) n L) (hn : n ≤ 1048576) :
    Calls Try.prog 31 #[.slice ao n cap, .int .i64 dims] w fun e w' => e = .returned (.int .i64 (Mt.acode L n dims)) ∧ Below w.heap.size w w' := by
  have H : ∀ W, Below w.heap.size w W → Hid (RdL W (.slice ao n cap) n L) := fun W hb => h.later hb
  clear h
  have hnI : (n : Int) ≤ 1048576 := by omega
  obtain ⟨C, hC⟩ : ∃ C, C = Mt.acode L n dims := ⟨_, rfl⟩
  have HC : Hid (C = Mt.acode L n dims) := hC
  rw [← hC]
  clear hC
  have bnd : ∀ (r : Int) (W : World) (v : Value), r = (if Mt.inR dims 1 10 then 0 else 1) → Bnd W v 1 10 1 → Calls Try.prog 63 #[v, .slice (some ⟨W.heap.size, 0, none⟩) 1 1] (W.alloc (.cells #[.int .i64 dims] 2)) fun e w' => e = .returned (.int .i64 r) ∧ Below (W.alloc (.cells #[.int .i64 dims] 2)).heap.size (W.alloc (.cells #[.int .i64 dims] 2)) w' := fun r W v hr hv =>
    fault1_any hr (hv.later ((Below.refl _ _).alloc (Nat.le_refl _) _)) (lst1 _ dims)
  cases hdj : Mt.inR dims 1 10 with
  | false =>
    have hs : Hid (C = 1) := by show C = 1; rw [HC.out]; unfold Mt.acode; rw [hdj]; rfl
    have bnd1 := fun W v hv => bnd 1 W v (by rw [hdj]; rfl) hv
    clear bnd H
    go_enter Try.func31, Try.ntmps31
    go_wp2_with (first | (go_at_call 67; refine (between_any 1 10 1 _).mono ?_; rintro e w1 ⟨b1, b2, rfl, -, -, q1, q2, hb1⟩) | (go_at_call 63; refine (bnd1 _ _ ⟨b1, b2, rfl, q1, q2⟩).mono ?_; rintro e w2 ⟨rfl, hb2⟩))
    go_ret
    exact ⟨by rw [hs.out]; rfl, by refine box_step ?_ hb2 (by go_size); exact hb1.alloc hb1.size _⟩
  | true =>
  have bnd0 := fun W v hv => bnd 0 W v (by rw [hdj]; rfl) hv
  clear bnd
  by_cases hlong : 20 < n
  · have hs : Hid (C = 2) := by show C = 2; rw [HC.out]; unfold Mt.acode; rw [hdj, if_pos rfl, if_pos hlong]
    have hlI : (20 : Int) < n := by omega
    clear H
    go_enter Try.func31, Try.ntmps31
    go_wp2_with (first | (go_at_call 67; refine (between_any 1 10 1 _).mono ?_; rintro e w1 ⟨b1, b2, rfl, -, -, q1, q2, hb1⟩) | (go_at_call 63; refine (bnd0 _ _ ⟨b1, b2, rfl, q1, q2⟩).mono ?_; rintro e w2 ⟨rfl, hb2⟩))
    go_ret
    exact ⟨by rw [hs.out]; rfl, by refine box_step ?_ hb2 (by go_size); exact hb1.alloc hb1.size _⟩
  have HA : Hid (Mt.acode L n dims = Mt.fst (fun k => Mt.aone dims (L k)) n) := by show _ = _; unfold Mt.acode; rw [hdj, if_pos rfl, if_neg hlong]
  have hd10 := Mt.inR_iff.1 hdj
  have hsI : (n : Int) ≤ 20 := by omega
  clear hdj
  go_enter Try.func31, Try.ntmps31
  go_wp2_with (first | (go_at_call 67; refine (between_any 1 10 1 _).mono ?_; rintro e w1 ⟨b1, b2, rfl, -, -, q1, q2, hb1⟩) | (go_at_call 63; refine (bnd0 _ _ ⟨b1, b2, rfl, q1, q2⟩).mono ?_; rintro e w2 ⟨rfl, hb2⟩))
  have HB0 : Hid (Below w.heap.size w w2) := by refine box_step ?_ hb2 (by go_size); exact hb1.alloc hb1.size _
  clear bnd0 hb1 hb2 q1 q2
  go_loopw [21] (fun i wr => ∃ k : Nat, k ≤ n ∧ i = .int .i64 k ∧ Hid (Below w.heap.size w wr) ∧ Hid (Mt.fst (fun k => Mt.aone dims (L k)) k = 0)) (fun i _ => n - (intOf i).toNat)
  case atStart => exact ⟨0, Nat.zero_le _, rfl, HB0, rfl⟩
  case round =>
    obtain ⟨k, hk, rfl, HB, HF⟩ := hrel
    by_cases hkn : k < n
    · obtain ⟨b, off, po, pc, rfl, hc, hp⟩ := (H wr HB.out).out.at hkn
      obtain ⟨x, hx⟩ : ∃ x, x = L k := ⟨_, rfl⟩
      obtain ⟨m, hm⟩ : ∃ m, m = (L k).np := ⟨_, rfl⟩
      rw [← hm, ← hx] at hc hp
      have c0 : wr.cell? ⟨b, off + k * 2, none⟩ = some (.slice po m pc) := hc 0 (by omega)
      have c1 : wr.cell? ⟨b, off + k * 2 + 1, none⟩ = some (.int .i64 x.want) := hc 1 (by omega)
      have HX : Hid (x = L k ∧ m = x.np) := ⟨hx, by rw [hx]; exact hm⟩
      have hkI : (k : Int) < n := by omega
      have HCl : ∀ W, Below wr.heap.size wr W → Calls Try.prog 68 #[.agg #[.slice po m pc, .int .i64 x.want], .int .i64 dims] W fun e w' => e = .returned (.int .i64 (Mt.aone dims x)) ∧ Below W.heap.size W w' := fun W hb => iAim_any HX.out.2 (hp.later hb) (by omega)
      obtain ⟨q, hq⟩ : ∃ q, q = Mt.aone dims x := ⟨_, rfl⟩
      rw [← hq] at HCl
      have HQ : Hid (q = Mt.aone dims (L k)) := by show q = _; rw [← HX.out.1]; exact hq
      clear hc hp hx hm hq H
      by_cases hz : q = 0
      · have HF2 : Hid (Mt.fst (fun k => Mt.aone dims (L k)) (k + 1) = 0) := Mt.fst_next HF.out (by show Mt.aone dims (L k) = 0; rw [← HQ.out]; exact hz)
        subst hz
        go_wp2_with (first | (go_at_call 68; refine (HCl _ (by go_grown)).mono ?_; rintro e w3 ⟨rfl, hb3⟩))
        go_roundw
        case rel => exact ⟨k + 1, by omega, by simp, by refine box_step ?_ hb3 (by go_size); exact HB.out.alloc HB.out.size _, HF2⟩
        case measure => simp [intOf]; omega
      · have hs : Hid (C = q) := by
          show C = q
          rw [HC.out, HA.out, HQ.out]
          exact Mt.fst_hit HF.out (by show Mt.aone dims (L k) ≠ 0; rw [← HQ.out]; exact hz) hkn
        have hb : (q != 0) = true := by simpa using hz
        clear hz
        go_wp2_with (first | (go_at_call 68; refine (HCl _ (by go_grown)).mono ?_; rintro e w3 ⟨rfl, hb3⟩))
        go_ret
        exact ⟨by rw [hs.out]; rfl, by refine box_step ?_ hb3 (by go_size); exact HB.out.alloc HB.out.size _⟩
    · obtain rfl : n = k := by omega
      have hs : Hid (C = 0) := by show C = 0; rw [HC.out, HA.out]; exact HF.out
      clear H
      go_wp2
      go_ret
      exact ⟨by rw [hs.out]; rfl, HB.out⟩
end Go.Proofs.Ytelejihgechmgaa
