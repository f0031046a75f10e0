/- What hop a way allows: contract. -/
import Derived.Test.YtfpklfpcencimaaWy
namespace Go.Proofs.Ytfpklfpcencimaa
open Go.RowKit
set_option linter.unusedVariables false
set_option linter.unusedSimpArgs false
def alw (nf : Nat) (F : Nat → Fb) (ns ps : List Int) (k n f : Int) : Bool :=
  if n ≠ lst ns ∨ Nt.isFi nf f = false then false
  else if k = 1 then decide (0 ≤ Nt.oth (F f.toNat) n) && !Nt.has (fun i => ns.getD i 0) ns.length (Nt.oth (F f.toNat) n)
  else if k = 2 ∨ k = 3 ∨ k = 4 then decide (0 ≤ Nt.oth (F f.toNat) n)
  else if k = 5 then decide (f = cam ps) else false
section
variable {w : World} {lo wb : Nat} {nodes slots : Int} {ao : Option Addr} {nf cp : Nat} {vn vp : Value} {c0 c1 c2 : Nat} {ns ps : List Int} {F : Nat → Fb}
set_option maxRecDepth 20000 in
set_option maxHeartbeats 3200000 in
theorem allows_any (k n f : Int) (h : Wb w lo wb nodes slots ao nf cp vn vp c0 c1 c2 ns ps) (h0 : ns ≠ []) (hl : ns.length ≤ 1048576) (hp : ps.length ≤ 1048576) (hR : Rf w (.slice ao nf cp) nf F) (hf : nf ≤ 1048576) :
    Calls Try.prog 43 #[.pointer (some ⟨wb, 0, none⟩), .agg #[.int .i64 k, .int .i64 n, .int .i64 f]] w fun e w' => e = .returned (.bool (alw nf F ns ps k n f)) ∧ Below w.heap.size w w' := by
  obtain ⟨X, hX⟩ : ∃ X, X = w.alloc (.cells #[.int .i64 k, .int .i64 n, .int .i64 f] 70) := ⟨_, rfl⟩
  have BX : Hid (Blk X w.heap.size #[.int .i64 k, .int .i64 n, .int .i64 f] 70 ∧ Below w.heap.size w X) := by rw [hX]; exact ⟨Blk.new rfl, (Below.refl _ _).alloc (Nat.le_refl _) _⟩
  have hXz : w.heap.size < X.heap.size := BX.out.1.lt
  have HW : ∀ W, Below X.heap.size X W → Hid (Wb W lo wb nodes slots ao nf cp vn vp c0 c1 c2 ns ps ∧ Rf W (.slice ao nf cp) nf F ∧ Below w.heap.size w W) := fun W hb => ⟨h.later (BX.out.2.trans (hb.mono (by omega))), hR.later (BX.out.2.trans (hb.mono (by omega))), BX.out.2.trans (hb.mono (by omega))⟩
  have HM : Hid (ns ≠ [] ∧ ns.length ≤ 1048576 ∧ ps.length ≤ 1048576) := ⟨h0, hl, hp⟩
  obtain ⟨T, hT⟩ : ∃ T, T = alw nf F ns ps k n f := ⟨_, rfl⟩
  have HT : Hid (T = alw nf F ns ps k n f) := hT
  rw [← hT]
  clear hT h hR
  obtain ⟨at0, hat⟩ : ∃ a, a = lst ns := ⟨_, rfl⟩
  have HA : Hid (at0 = lst ns) := hat
  have KN : ∀ x : Kept X.heap.size X, Calls Try.prog 57 #[.pointer (some ⟨wb, 0, none⟩)] x.w fun e w' => e = .returned (.int .i64 at0) ∧ Below x.w.heap.size x.w w' := fun x => by rw [HA.out]; exact node_any (HW _ x.h).out.1 HM.out.1 HM.out.2.1
  clear hat
  obtain ⟨fi, hfi⟩ : ∃ b, b = Nt.isFi nf f := ⟨_, rfl⟩
  have HFI : Hid (fi = Nt.isFi nf f) := hfi
  have KI : ∀ x : Kept X.heap.size X, Calls Try.prog 52 #[.agg #[.int .i64 nodes, .int .i64 slots, .slice ao nf cp], .int .i64 f] x.w fun e w' => e = .returned (.bool fi) ∧ Below x.w.heap.size x.w w' := fun x => by rw [HFI.out]; exact iFib_any _ _ _ _ _ _ _
  clear hfi
  have q0 : ∀ x : Kept X.heap.size X, x.w.cell? ⟨wb, 0, none⟩ = some (.int .i64 nodes) := fun x => (HW _ x.h).out.1.blk.cell (j := 0) rfl
  have q1 : ∀ x : Kept X.heap.size X, x.w.cell? ⟨wb, 1, none⟩ = some (.int .i64 slots) := fun x => (HW _ x.h).out.1.blk.cell (j := 1) rfl
  have q2 : ∀ x : Kept X.heap.size X, x.w.cell? ⟨wb, 2, none⟩ = some (.slice ao nf cp) := fun x => (HW _ x.h).out.1.blk.cell (j := 2) rfl
  have y0 : ∀ x : Kept X.heap.size X, x.w.cell? ⟨w.heap.size, 0, none⟩ = some (.int .i64 k) := fun x => (BX.out.1.old x.h).cell (j := 0) rfl
  have y1 : ∀ x : Kept X.heap.size X, x.w.cell? ⟨w.heap.size, 1, none⟩ = some (.int .i64 n) := fun x => (BX.out.1.old x.h).cell (j := 1) rfl
  have y2 : ∀ x : Kept X.heap.size X, x.w.cell? ⟨w.heap.size, 2, none⟩ = some (.int .i64 f) := fun x => (BX.out.1.old x.h).cell (j := 2) rfl
  by_cases hn : n = at0
  · have hn1 : (n != at0) = false := by simpa using hn
    cases fi with
    | false =>
      have E : Hid (T = false) := by show T = false; rw [HT.out]; unfold alw; rw [if_pos (Or.inr HFI.out.symm)]
      obtain rfl := E.out
      clear hn
      go_enter Try.func43, Try.ntmps43
      go_wp2_with fail
      rw [← hX]
      clear hX
      go_upto_region 1 with fail
      refine wp_region_kept X.heap.size (by kernel_rfl) (by kernel_rfl) ?_
      intro hne
      repeat (go_big_quiet_step (first | (go_at_call 57; exact Calls.kept_of (Nat.le_refl _) (KN _)) | (go_at_call 52; exact Calls.kept_of (Nat.le_refl _) (KI _))))
      refine wpQuiet_nil ?_
      rintro u3 ⟨xk, hxk⟩
      have hR1 := xk.h
      rw [← hxk] at hR1
      clear hxk xk hne q0 q1 q2 y0 y1 y2 KN KI
      go_wp2
      go_ret
      exact ⟨rfl, (HW _ hR1).out.2.2⟩
    | true =>
      have hb := Nt.isFi_iff.1 HFI.out.symm
      obtain ⟨i, hi⟩ : ∃ i : Nat, f = i := ⟨f.toNat, by omega⟩
      subst hi
      have hin : i < nf := by omega
      have hinI : (i : Int) < nf := by omega
      obtain ⟨b, off, rfl, _⟩ := (HW X (Below.refl _ _)).out.2.1.at hin
      obtain ⟨g, hg⟩ : ∃ g, g = F i := ⟨_, rfl⟩
      have KC : ∀ x : Kept X.heap.size X, ∀ j, j < 3 → x.w.cell? ⟨b, off + i * 3 + j, none⟩ = some (fcell g j) := by
        intro x j hj
        obtain ⟨b', off', e, hc⟩ := (HW _ x.h).out.2.1.at hin
        simp only [Option.some.injEq, Addr.mk.injEq] at e
        obtain ⟨rfl, rfl, _⟩ := e
        rw [hg]
        exact hc j hj
      have z0 : ∀ x : Kept X.heap.size X, x.w.cell? ⟨b, off + i * 3, none⟩ = some (.int .i64 g.a) := fun x => KC x 0 (by omega)
      have z1 : ∀ x : Kept X.heap.size X, x.w.cell? ⟨b, off + i * 3 + 1, none⟩ = some (.int .i64 g.b) := fun x => KC x 1 (by omega)
      have z2 : ∀ x : Kept X.heap.size X, x.w.cell? ⟨b, off + i * 3 + 2, none⟩ = some (.int .i64 g.km) := fun x => KC x 2 (by omega)
      obtain ⟨o, ho⟩ : ∃ o, o = Nt.oth g n := ⟨_, rfl⟩
      have KO : ∀ x : Kept X.heap.size X, Calls Try.prog 53 #[.agg #[.int .i64 g.a, .int .i64 g.b, .int .i64 g.km], .int .i64 n] x.w fun e w' => e = .returned (.int .i64 o) ∧ Below x.w.heap.size x.w w' := fun x => by rw [ho]; exact iOth_any _ _ _
      have HT2 : Hid (T = if k = 1 then decide (0 ≤ o) && !Nt.has (fun i => ns.getD i 0) ns.length o else if k = 2 ∨ k = 3 ∨ k = 4 then decide (0 ≤ o) else if k = 5 then decide ((i : Int) = cam ps) else false) := by
        show T = _
        rw [HT.out, ho, hg]
        unfold alw
        rw [if_neg (by rw [← HA.out, ← HFI.out]; simp [hn])]
        rfl
      clear hg ho hb HT KC hn
      go_enter Try.func43, Try.ntmps43
      go_wp2_with fail
      rw [← hX]
      clear hX
      go_upto_region 1 with fail
      refine wp_region_kept X.heap.size (by kernel_rfl) (by kernel_rfl) ?_
      intro hne
      repeat (go_big_quiet_step (first | (go_at_call 57; exact Calls.kept_of (Nat.le_refl _) (KN _)) | (go_at_call 52; exact Calls.kept_of (Nat.le_refl _) (KI _))))
      refine wpQuiet_nil ?_
      rintro u3 ⟨xk, hxk⟩
      have hRu3 := xk.h
      rw [← hxk] at hRu3
      clear hxk xk hne
      have q2_3 : ∀ x : Kept X.heap.size u3, x.w.cell? ⟨wb, 2, none⟩ = some (.slice (some ⟨b, off, none⟩) nf cp) := fun x => q2 ⟨x.w, hRu3.trans x.h⟩
      have y1_3 : ∀ x : Kept X.heap.size u3, x.w.cell? ⟨w.heap.size, 1, none⟩ = some (.int .i64 n) := fun x => y1 ⟨x.w, hRu3.trans x.h⟩
      have y2_3 : ∀ x : Kept X.heap.size u3, x.w.cell? ⟨w.heap.size, 2, none⟩ = some (.int .i64 i) := fun x => y2 ⟨x.w, hRu3.trans x.h⟩
      have z0_3 : ∀ x : Kept X.heap.size u3, x.w.cell? ⟨b, off + i * 3, none⟩ = some (.int .i64 g.a) := fun x => z0 ⟨x.w, hRu3.trans x.h⟩
      have z1_3 : ∀ x : Kept X.heap.size u3, x.w.cell? ⟨b, off + i * 3 + 1, none⟩ = some (.int .i64 g.b) := fun x => z1 ⟨x.w, hRu3.trans x.h⟩
      have z2_3 : ∀ x : Kept X.heap.size u3, x.w.cell? ⟨b, off + i * 3 + 2, none⟩ = some (.int .i64 g.km) := fun x => z2 ⟨x.w, hRu3.trans x.h⟩
      have KO_3 : ∀ x : Kept X.heap.size u3, Calls Try.prog 53 #[.agg #[.int .i64 g.a, .int .i64 g.b, .int .i64 g.km], .int .i64 n] x.w fun e w' => e = .returned (.int .i64 o) ∧ Below x.w.heap.size x.w w' := fun x => KO ⟨x.w, hRu3.trans x.h⟩
      clear q0 q1 q2 y0 y1 y2 z0 z1 z2 KO KN KI
      go_upto_region 3 with fail
      refine wp_region_kept X.heap.size (by kernel_rfl) (by kernel_rfl) ?_
      intro hne
      repeat (go_big_quiet_step (first | (go_at_call 53; exact Calls.kept_of hRu3.size (KO_3 _))))
      refine wpQuiet_nil ?_
      rintro u5 ⟨xk, hxk⟩
      have hRu5 := xk.h
      rw [← hxk] at hRu5
      have hR5 : Below X.heap.size X u5 := hRu3.trans hRu5
      clear hxk xk hne q2_3 y1_3 y2_3 z0_3 z1_3 z2_3 KO_3
      have HR5 : Hid (Below X.heap.size X u5) := hR5
      have y0 : u5.cell? ⟨w.heap.size, 0, none⟩ = some (.int .i64 k) := (BX.out.1.old hR5).cell (j := 0) rfl
      clear hRu3 hRu5 hR5
      by_cases k1 : k = 1
      · subst k1
        by_cases h0 : 0 ≤ o
        · have hd : decide (0 ≤ o) = true := by simpa using h0
          obtain ⟨ao1, cap1, rfl, _⟩ := (HW X (Below.refl _ _)).out.1.nl.form
          have x3 := (HW _ HR5.out).out.1.blk.cell (j := 3) (v := .slice ao1 ns.length cap1) rfl
          have E : Hid (T = !Nt.has (fun i => ns.getD i 0) ns.length o) := by show T = _; rw [HT2.out, if_pos rfl, hd]; rfl
          have hcn := cnt_any o (HW _ HR5.out).out.1.nl.rd HM.out.2.1
          obtain ⟨r, hr⟩ : ∃ r, r = Nt.has (fun i => ns.getD i 0) ns.length o := ⟨_, rfl⟩
          have E2 : Hid (T = !r) := by show T = _; rw [E.out, hr]
          rw [← hr] at hcn
          clear hr E
          go_wp2_with fail
          refine hcn.mono ?_
          rintro e w9 ⟨rfl, rfl⟩
          clear hcn
          go_wp2
          go_ret
          exact ⟨by rw [E2.out]; rfl, (HW _ HR5.out).out.2.2⟩
        · have hd : decide (0 ≤ o) = false := by simpa using h0
          have E : Hid (T = false) := by show T = _; rw [HT2.out, if_pos rfl, hd]; rfl
          obtain rfl := E.out
          go_wp2
          go_ret
          exact ⟨rfl, (HW _ HR5.out).out.2.2⟩
      · have b1 : (k == 1) = false := by simpa using k1
        by_cases k5 : k = 5
        · subst k5
          have E : Hid (T = decide ((i : Int) = cam ps)) := by show T = _; rw [HT2.out]; simp
          have KC : ∀ x : Kept X.heap.size u5, Calls Try.prog 59 #[.pointer (some ⟨wb, 0, none⟩)] x.w fun e w' => e = .returned (.int .i64 (cam ps)) ∧ Below x.w.heap.size x.w w' := fun x => came_any (HW _ (HR5.out.trans x.h)).out.1 HM.out.2.2
          have y2 : ∀ x : Kept X.heap.size u5, x.w.cell? ⟨w.heap.size, 2, none⟩ = some (.int .i64 i) := fun x => (BX.out.1.old (HR5.out.trans x.h)).cell (j := 2) rfl
          clear k1 b1 HT2
          go_upto_region 12 with fail
          refine wp_region_kept X.heap.size (by kernel_rfl) (by kernel_rfl) ?_
          intro hne
          repeat (go_big_quiet_step (first | (go_at_call 59; exact Calls.kept_of HR5.out.size (KC _))))
          refine wpQuiet_nil ?_
          rintro u6 ⟨xk, hxk⟩
          have hR6 := xk.h
          rw [← hxk] at hR6
          clear hxk xk hne KC y2
          go_wp2
          go_ret
          exact ⟨by rw [E.out]; rfl, (HW _ (HR5.out.trans hR6)).out.2.2⟩
        · have b5 : (k == 5) = false := by simpa using k5
          by_cases k2 : k = 2 ∨ k = 3 ∨ k = 4
          · have E : Hid (T = decide (0 ≤ o)) := by show T = _; rw [HT2.out, if_neg k1, if_pos k2]
            rcases k2 with rfl | rfl | rfl
            · go_wp2
              go_ret
              exact ⟨by rw [E.out]; rfl, (HW _ HR5.out).out.2.2⟩
            · go_wp2
              go_ret
              exact ⟨by rw [E.out]; rfl, (HW _ HR5.out).out.2.2⟩
            · go_wp2
              go_ret
              exact ⟨by rw [E.out]; rfl, (HW _ HR5.out).out.2.2⟩
          · have E : Hid (T = false) := by show T = _; rw [HT2.out, if_neg k1, if_neg k2, if_neg k5]
            have b2 : (k == 2) = false := by simp; omega
            have b3 : (k == 3) = false := by simp; omega
            have b4 : (k == 4) = false := by simp; omega
            obtain rfl := E.out
            clear k1 k2 k5
            go_wp2
            go_ret
            exact ⟨rfl, (HW _ HR5.out).out.2.2⟩
  · have hn1 : (n != at0) = true := by simpa using hn
    have E : Hid (T = false) := by show T = false; rw [HT.out]; unfold alw; rw [if_pos (Or.inl (by rw [← HA.out]; exact hn))]
    obtain rfl := E.out
    clear hn
    go_enter Try.func43, Try.ntmps43
    go_wp2_with fail
    rw [← hX]
    clear hX
    go_upto_region 1 with fail
    refine wp_region_kept X.heap.size (by kernel_rfl) (by kernel_rfl) ?_
    intro hne
    repeat (go_big_quiet_step (first | (go_at_call 57; exact Calls.kept_of (Nat.le_refl _) (KN _)) | (go_at_call 52; exact Calls.kept_of (Nat.le_refl _) (KI _))))
    refine wpQuiet_nil ?_
    rintro u3 ⟨xk, hxk⟩
    have hR1 := xk.h
    rw [← hxk] at hR1
    clear hxk xk hne q0 q1 q2 y0 y1 y2 KN KI
    go_wp2
    go_ret
    exact ⟨rfl, (HW _ hR1).out.2.2⟩
end
end Go.Proofs.Ytfpklfpcencimaa
