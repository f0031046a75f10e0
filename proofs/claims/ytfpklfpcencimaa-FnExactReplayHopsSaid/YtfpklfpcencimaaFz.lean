/- Where an allowed hop leads: contract. -/
import Derived.Test.YtfpklfpcencimaaFo
import Derived.Test.YtfpklfpcencimaaRp
import Derived.Test.YtfpklfpcencimaaFg
import Derived.Test.YtfpklfpcencimaaFw
namespace Go.Proofs.Ytfpklfpcencimaa
open Go.RowKit Go.Conc
set_option linter.unusedVariables false
set_option linter.unusedSimpArgs false
theorem Ol.some {w : World} {lo cap : Nat} {ao : Option Addr} {xs : List Int} {n : Nat} (h : Ol w lo (.slice ao n cap) xs) (h0 : xs ≠ []) : ∃ g, ao = some ⟨g, 0, none⟩ := by
  obtain ⟨_, h1 | ⟨g, c, cur, hv, r⟩⟩ := h
  · exact absurd (List.length_eq_zero_iff.1 h1.2) h0
  · simp only [Value.slice.injEq] at hv
    exact ⟨g, hv.1⟩
theorem follow_any {w : World} {lo wb : Nat} {nodes slots : Int} {ao : Option Addr} {nf cp : Nat} {vn vp : Value} {c0 c1 c2 : Nat} {ns ps : List Int} {F : Nat → Fb} {q : Nat} {k n f : Int} (h : Wb w lo wb nodes slots ao nf cp vn vp c0 c1 c2 ns ps) (hlo : lo ≤ w.heap.size)
    (hR : ∀ W, Below lo w W → Rf W (.slice ao nf cp) nf F) (hnet : ∀ b off, 0 < nf → ao = some ⟨b, off, none⟩ → b < lo) (hf : nf ≤ 14) (hw : Way nf F q ns ps) (hq : q ≤ 1048575) (ha : alw nf F ns ps k n f = true) :
    Calls Try.prog 44 #[.pointer (some ⟨wb, 0, none⟩), .agg #[.int .i64 k, .int .i64 n, .int .i64 f]] w fun e w' => ∃ vn' vp', e = .returned (.int .i64 (if k = 1 then 0 else f + 1)) ∧ Wb w' lo wb nodes slots ao nf cp vn' vp' c0 c1 c2 (stepN F ns k n f) (stepP ps k f) ∧ Below lo w w' := by
  obtain ⟨h1, h2⟩ := alw_fib ha
  have hb := Nt.isFi_iff.1 h2
  obtain ⟨i, rfl⟩ : ∃ i : Nat, f = i := ⟨f.toNat, by omega⟩
  have hpl : ps.length ≤ 1048575 := Nat.le_trans hw.few hq
  have hnl : ns.length ≤ 1048576 := by have := hw.len; omega
  by_cases k1 : k = 1
  · subst k1
    obtain ⟨an, cn, rfl, _⟩ := h.nl.form
    obtain ⟨ap, cq, rfl, _⟩ := h.pl.form
    refine Calls.mono (follow_go n i hR hnet (by omega) hnl (by omega) h hlo) ?_
    rintro e w' ⟨rfl, ⟨vn', vp', hW⟩, hb⟩
    refine ⟨vn', vp', by rw [if_pos rfl], ?_, hb⟩
    have e1 : stepN F ns 1 n i = ns ++ [Nt.oth (F i) n] := by unfold stepN; rw [if_pos rfl]; rfl
    have e2 : stepP ps 1 i = ps ++ [(i : Int)] := by unfold stepP; rw [if_pos rfl]
    rw [e1, e2]
    exact hW
  · by_cases k5 : k = 5
    · subst k5
      have h5 := (alw_five ha).2
      have hn0 : ns ≠ [] := by rintro rfl; have := hw.len; simp at this
      have ep := snoc_of h5
      have en := snoc_of hn0
      have e1 : stepN F ns 5 n i = ns.dropLast := by unfold stepN; rw [if_neg (by decide), if_pos rfl]
      have e2 : stepP ps 5 i = ps.dropLast := by unfold stepP; rw [if_neg (by decide), if_pos rfl]
      rw [e1, e2]
      generalize ns.dropLast = ns0 at en
      generalize ps.dropLast = ps0 at ep
      generalize lst ns = x at en
      generalize lst ps = y at ep
      subst en
      subst ep
      obtain ⟨an, cn, rfl, hcn⟩ := h.nl.form
      obtain ⟨ap, cq, rfl, hcq⟩ := h.pl.form
      obtain ⟨gn, rfl⟩ := h.nl.some hn0
      obtain ⟨gp, rfl⟩ := h.pl.some h5
      rw [List.length_append] at hcn hcq hnl hpl
      rw [List.length_append, List.length_append] at h
      simp only [List.length_cons, List.length_nil, Nat.zero_add] at h hcn hcq hnl hpl
      refine Calls.mono (follow_back (F := F) n i (by omega) (by omega) (by omega) hcn hcq h hlo) ?_
      rintro e w' ⟨rfl, ⟨vn', vp', hW⟩, hb⟩
      exact ⟨vn', vp', by rw [if_neg (by decide)], hW, hb⟩
    · refine Calls.mono (follow_stay (F := F) k n i (by simpa using k1) (by simpa using k5) (by omega) h hlo) ?_
      rintro e w' ⟨rfl, hW, hb⟩
      refine ⟨vn, vp, by rw [if_neg k1], ?_, hb⟩
      have e1 : stepN F ns k n i = ns := by unfold stepN; rw [if_neg k1, if_neg k5]
      have e2 : stepP ps k i = ps := by unfold stepP; rw [if_neg k1, if_neg k5]
      rw [e1, e2]
      exact hW
end Go.Proofs.Ytfpklfpcencimaa
