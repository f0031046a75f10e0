/- The specification's lights but one: contract. -/
import Derived.Test.YtinfbbbgfkaioaaGp
import Derived.Test.YtinfbbbgfkaioaaCp
namespace Go.Proofs.Ytinfbbbgfkaioaa
open Go.RowKit
set_option linter.unusedVariables false
set_option linter.unusedSimpArgs false
/-- The rows of a list that lacks place t; QB: the paths' blocks. -/
def lfo (L : Nat → Li) (t : Nat) (QB QC : Nat → Nat) (a : Nat) : List Value := lrow (L (skp t a)) (.slice (some ⟨QB a, 0, none⟩) (L (skp t a)).np (QC a))
set_option maxRecDepth 20000 in
set_option maxHeartbeats 3200000 in
theorem sOut_any {w : World} {ao : Option Addr} {N cap t : Nat} {L : Nat → Li} (id : Int) (h : RdL w (.slice ao (N + 1) cap) (N + 1) L) (hf : LFew (N + 1) L) (h1 : ∀ i, i < N + 1 → 0 < (L i).np) (ht : t < N + 1) (hid : ∀ k, k < N + 1 → ((L k).id != id) = !decide (k = t)) :
    Calls Try.prog 46 #[.slice ao (N + 1) cap, .int .i64 id] w fun e w' => ∃ g c PB PC, e = .returned (.slice (some ⟨g, 0, none⟩) N c) ∧ Cpy w.heap.size w' g N PB PC (fun i => L (skp t i)) ∧ Below w.heap.size w w' := by
  have H : ∀ W, Below w.heap.size w W → Hid (RdL W (.slice ao (N + 1) cap) (N + 1) L) := fun W hb => h.later hb
  have HF : Hid (LFew (N + 1) L ∧ (∀ i, i < N + 1 → 0 < (L i).np) ∧ ∀ k, k < N + 1 → ((L k).id != id) = !decide (k = t)) := ⟨hf, h1, hid⟩
  have hnI : (N : Int) + 1 ≤ 1048576 := by have := hf.cn; omega
  clear h hf h1 hid
  obtain ⟨Y, hY⟩ : ∃ Y, Y = w.alloc (.cells #[] 80) := ⟨_, rfl⟩
  have HY : Hid (Y.ownsRow w.heap.size 80 6 (.slice (some ⟨w.heap.size, 0, none⟩) 0 0) 0 [] ∧ Below w.heap.size w Y) := by rw [hY]; exact ⟨ownsV_empty w 80 6, (Below.refl _ _).alloc (Nat.le_refl _) _⟩
  go_enter Try.func46, Try.ntmps46
  go_wp2_with fail
  rw [← hY]
  clear hY
  go_loopw [5, 6] (fun s5 s6 wr => ∃ (k c : Nat) (v : Value) (QB QC : Nat → Nat), k ≤ N + 1 ∧ Hid (c = if k ≤ t then k else k - 1) ∧ s5 = v ∧ s6 = .int .i64 k ∧ Hid (wr.ownsRow w.heap.size 80 6 v c (flat (lfo L t QB QC) c) ∧ v ≠ .slice none 0 0 ∧ (∀ a, a < c → w.heap.size ≤ QB a ∧ Seg wr (QB a) 2 0 (L (skp t a)).np (fun k => .int .i64 ((L (skp t a)).p k))) ∧ Below w.heap.size w wr)) (fun _ s6 _ => N + 1 - (intOf s6).toNat)
  case atStart => exact ⟨0, 0, _, fun _ => 0, fun _ => 0, Nat.zero_le _, by show 0 = if 0 ≤ t then 0 else 0 - 1; simp, rfl, rfl, HY.out.1, by simp, fun a ha => absurd ha (Nat.not_lt_zero _), HY.out.2⟩
  case round =>
    obtain ⟨k, c, v, QB, QC, hk, HC, rfl, rfl, HR⟩ := hrel
    by_cases hkn : k < N + 1
    · obtain ⟨bb, off, po, pc, rfl, hc, hp⟩ := (H wr HR.out.2.2.2).out.at hkn
      obtain ⟨x, hx⟩ : ∃ x, x = L k := ⟨_, rfl⟩
      obtain ⟨m, hm⟩ : ∃ m, m = (L k).np := ⟨_, rfl⟩
      have hs := HF.out.2.2 k hkn
      have hm0 : 0 < m := by rw [hm]; exact HF.out.2.1 k hkn
      have hm1 : m ≤ 1048576 := by rw [hm]; exact HF.out.1.each hkn
      rw [← hm, ← hx] at hc hp
      rw [← hx] at hs
      have c0 : wr.cell? ⟨bb, off + k * 6, none⟩ = some (.int .i64 x.id) := hc 0 (by omega)
      have c1 : wr.cell? ⟨bb, off + k * 6 + 1, none⟩ = some (.int .i64 x.fr) := hc 1 (by omega)
      have c2 : wr.cell? ⟨bb, off + k * 6 + 2, none⟩ = some (.int .i64 x.tt) := hc 2 (by omega)
      have c3 : wr.cell? ⟨bb, off + k * 6 + 3, none⟩ = some (.slice po m pc) := hc 3 (by omega)
      have c4 : wr.cell? ⟨bb, off + k * 6 + 4, none⟩ = some (.int .i64 x.fi) := hc 4 (by omega)
      have c5 : wr.cell? ⟨bb, off + k * 6 + 5, none⟩ = some (.int .i64 x.wd) := hc 5 (by omega)
      have HP : Hid (RdRow wr (.slice po m pc) m x.p) := hp
      have HX : Hid (x = L k ∧ m = (L k).np) := ⟨hx, hm⟩
      have hkI : (k : Int) < N + 1 := by omega
      clear hc hp hx hm H
      by_cases he : k = t
      · rw [decide_eq_true he] at hs
        have HE : Hid (c = if k + 1 ≤ t then k + 1 else k + 1 - 1) := by
          show c = if k + 1 ≤ t then k + 1 else k + 1 - 1
          rw [HC.out, if_pos (by omega), if_neg (by omega)]
          omega
        clear he
        simp only [Bool.not_true] at hs
        go_wp2
        go_roundw
        case rel => exact ⟨k + 1, c, _, QB, QC, by omega, HE, rfl, by simp, HR⟩
        case measure => simp [intOf]; omega
      · rw [decide_eq_false he] at hs
        have HE : Hid (c + 1 = (if k + 1 ≤ t then k + 1 else k + 1 - 1) ∧ skp t c = k ∧ c ≤ N) := by
          have hc := HC.out
          by_cases e : k ≤ t
          · rw [if_pos e] at hc
            refine ⟨by rw [if_pos (by omega)]; omega, by unfold skp; rw [if_pos (by omega)]; exact hc, by omega⟩
          · rw [if_neg e] at hc
            refine ⟨by rw [if_neg (by omega)]; omega, by unfold skp; rw [if_neg (by omega)]; omega, by omega⟩
        clear he
        simp only [Bool.not_false] at hs
        go_wp2_with fail
        refine (sCopy_any x HP.out hm0 hm1).mono ?_
        rintro e w2 ⟨gp, cp, rfl, hg2, hs2, hb2⟩
        have hcI : c ≤ 1000000000 := by have := HE.out.2.2; omega
        have H2 : Hid (w2.ownsRow w.heap.size 80 6 u5 c (flat (lfo L t QB QC) c) ∧ (∀ a, a < c → w.heap.size ≤ QB a ∧ Seg w2 (QB a) 2 0 (L (skp t a)).np (fun k => .int .i64 ((L (skp t a)).p k))) ∧ Seg w2 gp 2 0 m (fun i => .int .i64 (x.p i)) ∧ Below w.heap.size w w2) := ⟨ownsV_later HR.out.1 hb2, fun a ha => ⟨(HR.out.2.2.1 a ha).1, (HR.out.2.2.1 a ha).2.of_block (hb2.block _ (HR.out.2.2.1 a ha).2.lt)⟩, hs2, HR.out.2.2.2.trans (hb2.mono HR.out.2.2.2.size)⟩
        have hws : w.heap.size ≤ w2.heap.size := H2.out.2.2.2.size
        have HG : Hid (wr.heap.size ≤ gp) := hg2
        clear hg2 hs2 hb2 c0 c1 c2 c3 c4 c5
        go_wp2_with (first | (at_builtin; refine pushV rfl (.tmp 21) (.tmp 27) 30 rfl 80 (.agg #[.int .i64 0, .int .i64 0, .int .i64 0, .slice none 0 0, .int .i64 0, .int .i64 0]) 6 64 Try.underlying30 infoLi rfl (by decide) (by decide) _ [.int .i64 x.id, .int .i64 x.fr, .int .i64 x.tt, .slice (some ⟨gp, 0, none⟩) m cp, .int .i64 x.fi, .int .i64 x.wd] rfl (lrow_one x (some ⟨gp, 0, none⟩) m cp) w.heap.size _ c _ rfl H2.out.1 1 rfl hcI hws ?_; intro v1 w3 own3 grow3 nn3))
        have H3 : Hid (w3.ownsRow w.heap.size 80 6 v1 (c + 1) (flat (lfo L t (fun a => if a = c then gp else QB a) (fun a => if a = c then cp else QC a)) (c + 1)) ∧ v1 ≠ .slice none 0 0 ∧ (∀ a, a < c + 1 → w.heap.size ≤ (if a = c then gp else QB a) ∧ Seg w3 (if a = c then gp else QB a) 2 0 (L (skp t a)).np (fun k => .int .i64 ((L (skp t a)).p k))) ∧ Below w.heap.size w w3) := by
          obtain ⟨u1, u2, u3, u4⟩ := H2.out
          obtain ⟨e1, e2⟩ := HX.out
          obtain ⟨e3, e4, e5⟩ := HE.out
          have key : ∀ q (f : Nat → Value) (l : Nat), Seg w2 q 2 0 l f → Seg w3 q 2 0 l f := fun q f l hq => (hq.alloc _).grown grow3 (ownsV_off u1 hq (by decide))
          refine ⟨?_, nn3, fun a ha => ?_, pushV_below u1 grow3 u4 hws⟩
          · have : flat (lfo L t (fun a => if a = c then gp else QB a) (fun a => if a = c then cp else QC a)) (c + 1) = flat (lfo L t QB QC) c ++ [.int .i64 x.id, .int .i64 x.fr, .int .i64 x.tt, .slice (some ⟨gp, 0, none⟩) m cp, .int .i64 x.fi, .int .i64 x.wd] := by
              rw [flat_succ, flat_alike (G := lfo L t QB QC) fun a ha => by unfold lfo; simp only [if_neg (show a ≠ c by omega)]]
              congr 1
              unfold lfo lrow
              rw [e4, ← e2, ← e1]
              simp
            rw [this]
            exact own3
          · by_cases e : a = c
            · subst e
              rw [if_pos rfl, e4, ← e2, ← e1]
              exact ⟨by have := HG.out; have := HR.out.2.2.2.size; omega, key _ _ _ u3⟩
            · rw [if_neg e]
              exact ⟨(u2 a (by omega)).1, key _ _ _ (u2 a (by omega)).2⟩
        clear own3 grow3 nn3
        go_wp2
        go_roundw
        case rel => exact ⟨k + 1, c + 1, _, _, _, by omega, HE.out.1, rfl, by simp, H3⟩
        case measure => simp [intOf]; omega
    · obtain rfl : k = N + 1 := by omega
      have hcN : c = N := by have := HC.out; rw [if_neg (by omega)] at this; omega
      subst hcN
      obtain ⟨u1, u2, u3, u4⟩ := HR.out
      obtain ⟨g, cp, rfl, hg, hsg⟩ := owned_segV (m := 6) (F := lfo L t QB QC) (f := fun a j => lcell (L (skp t a)) (.slice (some ⟨QB a, 0, none⟩) (L (skp t a)).np (QC a)) j) (fun _ => rfl) (fun a ha j hj => lrow_at _ _ j hj) u1 u2
      have HL : Hid (Cpy w.heap.size wr g c QB QC (fun i => L (skp t i)) ∧ Below w.heap.size w wr) := ⟨⟨hg, hsg, u3⟩, u4⟩
      clear H u1 u2 u3 u4 hg hsg HR
      go_wp2
      go_ret
      exact ⟨g, cp, QB, QC, rfl, HL.out⟩
end Go.Proofs.Ytinfbbbgfkaioaa
