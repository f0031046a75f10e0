/- The program's elimination, walked: contract. -/
import Derived.Test.YtboppklcmdfphaaElimall
namespace Go.Proofs.Ytboppklcmdfphaa
open Go.RowKit
set_option linter.unusedVariables false
theorem pivot_el {lo hi b cap n wd c : Nat} {A : Rm.Mx} {w0 w : World} (hE : El lo hi w0 w b cap n wd A) (hn : n ≤ 24) (hwd : n ≤ wd) (hw2 : wd ≤ 1000) (hc : c < n) :
    Calls Try.prog 93 #[.slice (some ⟨b, 0, none⟩) n cap, .int .i64 c] w fun e w' => e = .returned (.int .i64 (Rm.pv A c (n - c))) ∧ w = w' := by
  obtain ⟨m, rfl, rfl, _, h4, _⟩ := hE
  exact pivot_any h4 (by omega) hc (by omega) (by omega)
/-- The rows of the matrix, told one by one. -/
theorem El.open {lo hi b cap n wd : Nat} {A : Rm.Mx} {w0 w : World} (hE : El lo hi w0 w b cap n wd A) : ∃ m : Lie, m.b = b ∧ m.cap = cap ∧ (∀ i, i < n → m.os i = 0 ∧ m.cs i = wd) ∧ Mat lo hi w m n (fun _ => wd) A ∧ Within lo hi w0 w ∧ w.heap.size = w0.heap.size := hE
set_option maxHeartbeats 1600000 in
theorem elim_any {lo hi b cap n wd : Nat} {M : Rm.Mx} {w : World} (hE0 : El lo hi w w b cap n wd M) (hn : n ≤ 24) (hwd : n ≤ wd) (hw2 : wd ≤ 1000) (hres : Rm.Res n wd M) :
    Calls Try.prog 62 #[.slice (some ⟨b, 0, none⟩) n cap] w fun e w' => ∃ r, e = .returned (.bool r) ∧ Within lo hi w w' ∧ w'.heap.size = w.heap.size ∧
      ((r = false ∧ Rm.elim n M n = none) ∨ (r = true ∧ ∃ A, Rm.elim n M n = some A ∧ El lo hi w w' b cap n wd A)) := by
  have HR : Hid (Rm.Res n wd M) := hres
  have HE0 : Hid (El lo hi w w b cap n wd M) := hE0
  clear hres hE0
  go_enter Try.func62, Try.ntmps62
  go_wp2_with fail
  go_loopw [8] (fun i wr => ∃ (c : Nat) (A : Rm.Mx), c ≤ n ∧ i = .int .i64 c ∧ Hid (Rm.elim n M c = some A) ∧ Hid (El lo hi w wr b cap n wd A)) (fun i _ => n - (intOf i).toNat)
  case atStart => exact ⟨0, M, Nat.zero_le _, rfl, rfl, HE0.out⟩
  case round =>
    obtain ⟨c, A, hc, rfl, hA, hE⟩ := hrel
    clear HE0
    by_cases hcn : c < n
    · have RA : Hid (Rm.Res n wd A) := Rm.res_elim HR.out c hc A hA.out
      go_wp2_with fail
      refine (pivot_el hE.out hn hwd hw2 hcn).mono ?_
      rintro e w1 ⟨rfl, rfl⟩
      by_cases hpv : Rm.pv A c (n - c) < 0
      · have HP : Hid (Rm.elim n M n = none) := Rm.elim_stop hA.out hcn hpv
        obtain ⟨m', _, _, _, _, h5, h6⟩ := hE.out
        have HX : Hid (Within lo hi w wr ∧ wr.heap.size = w.heap.size) := ⟨h5, h6⟩
        clear h5 h6
        go_wp2
        go_ret
        exact ⟨false, rfl, HX.out.1, HX.out.2, Or.inl ⟨rfl, HP.out⟩⟩
      obtain ⟨t, ht⟩ := Int.eq_ofNat_of_zero_le (show 0 ≤ Rm.pv A c (n - c) by omega)
      have HT : Hid (Rm.pv A c (n - c) = t) := ht
      have htn : t < n := by have := Rm.pv_hi A c (n - c); omega
      have htc : c ≤ t := by have := Rm.pv_ge A c (n - c) (by omega); omega
      rw [ht]
      clear ht hpv
      go_wp2_with fail
      go_cut [23] (fun _ wx => El lo hi w wx b cap n wd (Rm.swp A c t))
      case first =>
        obtain ⟨m', hb, hcap, h3, h4, h5, h6⟩ := hE.out
        have g1 : wr.cell? ⟨b, c, none⟩ = some (m'.row (fun _ => wd) c) := by rw [← hb]; exact h4.cellTop hcn
        have g2 : wr.cell? ⟨b, t, none⟩ = some (m'.row (fun _ => wd) t) := by rw [← hb]; exact h4.cellTop htn
        have f1 : wr.frozen? ⟨b, c, none⟩ = false := by rw [← hb]; exact h4.top.frozen _
        have f2 : wr.frozen? ⟨b, t, none⟩ = false := by rw [← hb]; exact h4.top.frozen _
        have HN : Hid (El lo hi w ((wr.setCell ⟨b, c, none⟩ (m'.row (fun _ => wd) t)).setCell ⟨b, t, none⟩ (m'.row (fun _ => wd) c)).drew b cap n wd (Rm.swp A c t)) := by
          rw [← hb]
          exact (El.swap hcap h3 h4 h5 h6 hcn htn rfl).drewN 1
        unfold Lie.row at g1 g2 HN
        clear h3 h4 h5 h6 hb hcap
        by_cases hct : c = t
        · subst hct
          go_region
          all_goals
            go_wp2_with fail
            go_meet
            case rel => exact HN.out
        · have hct' : c < t := by omega
          go_region
          all_goals
            go_wp2_with fail
            go_meet
            case rel => exact HN.out
      case rest =>
        have HS : Hid (El lo hi w wc b cap n wd (Rm.swp A c t)) := hcut
        have RS : Hid (Rm.Res n wd (Rm.swp A c t)) := Rm.res_swp RA.out hcn htn
        clear hcut hE RA
        obtain ⟨v, hv⟩ : ∃ v, v = wc := ⟨_, rfl⟩
        subst hv
        go_wp2_with fail
        go_cut [42] (fun _ wx => El lo hi w wx b cap n wd (Rm.scl (Rm.swp A c t) c))
        case first =>
          obtain ⟨m', hb, hcap, h3, h4, h5, h6⟩ := HS.out
          have g1 : v.cell? ⟨b, c, none⟩ = some (.slice (some ⟨m'.bs c, m'.os c, none⟩) wd (m'.cs c)) := by rw [← hb]; exact h4.cellRow hcn
          have g2 : v.cell? ⟨m'.bs c, m'.os c + c, none⟩ = some (.int .i64 (Rm.swp A c t c c)) := h4.cellAt hcn (by omega)
          have hcw : c < wd := by omega
          have HK : Hid (Calls Try.prog 94 #[.slice (some ⟨m'.bs c, m'.os c, none⟩) wd (m'.cs c), .int .i64 (Rm.invM (Rm.swp A c t c c))] v.drew fun e w' => e = .returned (.tuple #[]) ∧ El lo hi w w' b cap n wd (Rm.scl (Rm.swp A c t) c)) := by
            have hq : Mat lo hi v.drew m' n (fun _ => wd) (Rm.swp A c t) := h4.keep fun _ _ _ => rfl
            refine (scale_any _ _ wd _ (fun j => Rm.swp A c t c j) _ v.drew (by omega) (hq.row c hcn)).mono ?_
            rintro e w1 ⟨rfl, h7, h8, h9⟩
            refine ⟨rfl, ?_⟩
            have := El.anew h3 hq (h5.trans ⟨(Below.refl _ _).drew, fun _ _ _ => rfl⟩) h6 hcn h8 h7 h9
            rw [hb, hcap] at this
            exact this.congr fun i j _ _ => by
              unfold Rm.scl
              by_cases e : i = c
              · subst e; simp
              · simp [e]
          clear h3 h4 h5 h6 hb hcap
          go_region_with (first | (go_at_call 95; refine (iInv_any _ _).mono ?_; rintro e w1 ⟨rfl, rfl⟩) | (go_at_call 94; refine HK.out.mono ?_; rintro e w1 ⟨rfl, hel⟩))
          all_goals
            go_wp2_with fail
            go_meet
            case rel => assumption
        case rest =>
          have HQ : Hid (El lo hi w wc b cap n wd (clrTo (Rm.scl (Rm.swp A c t) c) c 0)) := hcut.congr fun i j _ _ => by simp [clrTo]
          have RQ : Hid (Rm.Res n wd (Rm.scl (Rm.swp A c t) c)) := Rm.res_scl RS.out
          clear hcut HS RS
          obtain ⟨S, hS⟩ : ∃ S, S = Rm.scl (Rm.swp A c t) c := ⟨_, rfl⟩
          have ES : Hid (S = Rm.scl (Rm.swp A c t) c) := hS
          rw [← hS] at HQ RQ
          clear hS
          go_wp2_with fail
          go_loopw [45] (fun i wx => ∃ k : Nat, k ≤ n ∧ i = .int .i64 k ∧ Hid (El lo hi w wx b cap n wd (clrTo S c k))) (fun i _ => n - (intOf i).toNat)
          case atStart => exact ⟨0, Nat.zero_le _, rfl, HQ.out⟩
          case round =>
            obtain ⟨k, hk, rfl, hel⟩ := hrel
            clear HQ
            by_cases hkn : k < n
            · by_cases hkc : k = c
              · have h1 := eq_bool hkc
                have HN : Hid (El lo hi w wr b cap n wd (clrTo S c (k + 1))) := hel.out.congr fun i j _ _ => by
                  unfold clrTo
                  by_cases e : i < k
                  · rw [if_pos e, if_pos (by omega)]
                  · rw [if_neg e]
                    by_cases e2 : i < k + 1
                    · rw [if_pos e2, Rm.clr, if_pos (by omega), show i = c by omega]
                    · rw [if_neg e2]
                clear hkc hel
                go_wp2
                exact ⟨⟨k + 1, by omega, by simp, HN.out⟩, by simp [intOf]; omega⟩
              · have h1 := ne_bool hkc
                obtain ⟨m', hb, hcap, h3, h4, h5, h6⟩ := hel.out
                have g1 : wr.cell? ⟨b, k, none⟩ = some (.slice (some ⟨m'.bs k, m'.os k, none⟩) wd (m'.cs k)) := by rw [← hb]; exact h4.cellRow hkn
                have g2 : wr.cell? ⟨b, c, none⟩ = some (.slice (some ⟨m'.bs c, m'.os c, none⟩) wd (m'.cs c)) := by rw [← hb]; exact h4.cellRow hcn
                have HK : Hid (Calls Try.prog 96 #[.slice (some ⟨m'.bs k, m'.os k, none⟩) wd (m'.cs k), .slice (some ⟨m'.bs c, m'.os c, none⟩) wd (m'.cs c), .int .i64 c] wr.drew fun e w' => e = .returned (.tuple #[]) ∧ El lo hi w w' b cap n wd (clrTo S c (k + 1))) := by
                  have hq : Mat lo hi wr.drew m' n (fun _ => wd) (clrTo S c k) := h4.keep fun _ _ _ => rfl
                  have ek : ∀ j, clrTo S c k k j = S k j := fun j => by simp [clrTo]
                  have ec : ∀ j, clrTo S c k c j = S c j := fun j => by
                    unfold clrTo
                    by_cases e : c < k
                    · rw [if_pos e, Rm.clr, if_pos rfl]
                    · rw [if_neg e]
                  have hr := RQ.out k c hkn (by omega)
                  refine (clear_any _ _ wd _ _ _ _ c (fun j => S k j) (fun j => S c j) wr.drew (by omega) (by omega) hr.1 hr.2 (fun e => hkc (h4.apart k c hkn hcn e)) ((hq.row k hkn).congr fun j _ => by rw [ek]) ((hq.row c hcn).congr fun j _ => by rw [ec])).mono ?_
                  rintro e w1 ⟨rfl, h7, h8, h9⟩
                  refine ⟨rfl, ?_⟩
                  have := El.anew h3 hq (h5.trans ⟨(Below.refl _ _).drew, fun _ _ _ => rfl⟩) h6 hkn h8 h7 h9
                  rw [hb, hcap] at this
                  exact this.congr fun i j _ _ => by
                    unfold clrTo
                    by_cases e : i = k
                    · subst e
                      rw [if_pos rfl, if_pos (by omega), Rm.clr, if_neg hkc, Rm.clr1]
                    · rw [if_neg e]
                      by_cases e2 : i < k
                      · rw [if_pos e2, if_pos (by omega)]
                      · rw [if_neg e2, if_neg (by omega)]
                clear h3 h4 h5 h6 hb hcap hel hkc
                go_wp2_with fail
                go_region_with (first | (go_at_call 96; refine HK.out.mono ?_; rintro e w1 ⟨rfl, hnew⟩))
                all_goals
                  have HN : Hid (El lo hi w w1 b cap n wd (clrTo S c (k + 1))) := hnew
                  clear hnew
                  go_wp2
                  exact ⟨⟨k + 1, by omega, by simp, HN.out⟩, by simp [intOf]; omega⟩
            · obtain rfl : k = n := by omega
              have HN : Hid (Rm.elim k M (c + 1) = some (Rm.el1 A c t) ∧ El lo hi w wr b cap k wd (Rm.el1 A c t)) := by
                have h1 := Rm.elim_go hA.out (by rw [HT.out]; omega)
                rw [HT.out, Int.toNat_natCast] at h1
                refine ⟨h1, hel.out.congr fun i j hi _ => ?_⟩
                unfold clrTo Rm.el1
                rw [if_pos hi, ES.out]
              clear hel
              go_wp2
              exact ⟨⟨c + 1, _, by omega, by simp, HN.out.1, HN.out.2⟩, by simp [intOf]; omega⟩
    · obtain rfl : c = n := by omega
      obtain ⟨m', _, _, _, _, h5, h6⟩ := hE.out
      have HX : Hid (Within lo hi w wr ∧ wr.heap.size = w.heap.size) := ⟨h5, h6⟩
      clear h5 h6
      go_wp2
      go_ret
      exact ⟨true, rfl, HX.out.1, HX.out.2, Or.inr ⟨rfl, A, hA.out, hE.out⟩⟩
end Go.Proofs.Ytboppklcmdfphaa
