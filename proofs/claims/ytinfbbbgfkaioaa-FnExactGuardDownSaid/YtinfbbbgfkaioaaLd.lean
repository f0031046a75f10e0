/- Lights looked for by their Id, in both packages: contracts. -/
import Derived.Test.YtinfbbbgfkaioaaIe
namespace Go.Proofs.Ytinfbbbgfkaioaa
open Go.RowKit Go.Maps
set_option linter.unusedVariables false
set_option linter.unusedSimpArgs false
/-- The place of the first light of that Id; -1: there is none. -/
def fnd (L : Nat → Li) (id : Int) : Nat → Int
  | 0 => -1
  | k + 1 => if fnd L id k = -1 then (if (L k).id = id then (k : Int) else -1) else fnd L id k
theorem fnd_next {L : Nat → Li} {id : Int} {k : Nat} (h : fnd L id k = -1) (hn : (L k).id ≠ id) : fnd L id (k + 1) = -1 := by
  show (if fnd L id k = -1 then (if (L k).id = id then (k : Int) else -1) else fnd L id k) = -1
  rw [if_pos h, if_neg hn]
theorem fnd_at {L : Nat → Li} {id : Int} {k : Nat} (h : fnd L id k = -1) (he : (L k).id = id) : ∀ {n : Nat}, k < n → fnd L id n = k
  | 0, hk => absurd hk (Nat.not_lt_zero _)
  | n + 1, hk => by
    show (if fnd L id n = -1 then (if (L n).id = id then (n : Int) else -1) else fnd L id n) = _
    by_cases e : k = n
    · subst e; rw [if_pos h, if_pos he]
    · rw [fnd_at h he (show k < n by omega), if_neg (by omega)]
theorem fnd_no {L : Nat → Li} {id : Int} : ∀ {n : Nat}, fnd L id n = -1 → ∀ k, k < n → (L k).id ≠ id
  | 0, _, k, hk => absurd hk (Nat.not_lt_zero _)
  | n + 1, h, k, hk => by
    have e : (if fnd L id n = -1 then (if (L n).id = id then (n : Int) else -1) else fnd L id n) = -1 := h
    by_cases z : fnd L id n = -1
    · rw [if_pos z] at e
      by_cases c : k = n
      · subst c
        intro hh
        rw [if_pos hh] at e
        omega
      · exact fnd_no z k (by omega)
    · rw [if_neg z] at e; exact absurd e z
theorem fnd_is {L : Nat → Li} {id : Int} : ∀ {n : Nat}, fnd L id n ≠ -1 → ∃ k : Nat, k < n ∧ fnd L id n = (k : Int) ∧ (L k).id = id
  | 0, h => absurd rfl h
  | n + 1, h => by
    by_cases z : fnd L id n = -1
    · by_cases e : (L n).id = id
      · exact ⟨n, by omega, fnd_at z e (Nat.lt_succ_self n), e⟩
      · exact absurd (fnd_next z e) h
    · obtain ⟨k, h1, h2, h3⟩ := fnd_is z
      refine ⟨k, by omega, ?_, h3⟩
      show (if fnd L id n = -1 then (if (L n).id = id then (n : Int) else -1) else fnd L id n) = _
      rw [if_neg z, h2]
set_option maxRecDepth 20000 in
set_option maxHeartbeats 1600000 in
theorem sFind_any {w : World} {ao : Option Addr} {n cap : Nat} {L : Nat → Li} (id : Int) (h : RdL w (.slice ao n cap) n L) (hn : n ≤ 1048576) :
    Calls Try.prog 67 #[.slice ao n cap, .int .i64 id] w fun e w' => e = .returned (.int .i64 (fnd L id n)) ∧ w' = w := by
  have hnI : (n : Int) ≤ 1048576 := by omega
  have H : Hid (RdL w (.slice ao n cap) n L) := h
  clear h
  obtain ⟨C, hC⟩ : ∃ C, C = fnd L id n := ⟨_, rfl⟩
  have HC : Hid (C = fnd L id n) := hC
  rw [← hC]
  clear hC
  go_enter Try.func67, Try.ntmps67
  go_wp2_with fail
  go_loopw [5] (fun i wr => wr = w ∧ ∃ k : Nat, k ≤ n ∧ i = .int .i64 k ∧ Hid (fnd L id k = -1)) (fun i _ => n - (intOf i).toNat)
  case atStart => exact ⟨rfl, 0, Nat.zero_le _, rfl, rfl⟩
  case round =>
    obtain ⟨rfl, k, hk, rfl, HF⟩ := hrel
    by_cases hkn : k < n
    · obtain ⟨b, off, po, pc, rfl, hc, _⟩ := H.out.at hkn
      have c0 : wr.cell? ⟨b, off + k * 6, none⟩ = some (.int .i64 (L k).id) := hc 0 (by omega)
      have hkI : (k : Int) < n := by omega
      clear hc
      by_cases he : (L k).id = id
      · have hb : ((L k).id == id) = true := by simpa using he
        have hs : Hid (C = k) := by rw [HC.out]; exact fnd_at HF.out he hkn
        clear he
        go_wp2
        go_ret
        exact ⟨by rw [hs.out]; rfl, rfl⟩
      · have hb : ((L k).id == id) = false := by simpa using he
        have HF2 : Hid (fnd L id (k + 1) = -1) := fnd_next HF.out he
        clear he
        go_wp2
        go_roundw
        case rel => exact ⟨by trivial, k + 1, by omega, by simp, HF2⟩
        case measure => simp [intOf]; omega
    · obtain rfl : n = k := by omega
      have hs : Hid (C = -1) := by rw [HC.out]; exact HF.out
      go_wp2
      go_ret
      exact ⟨by rw [hs.out]; rfl, rfl⟩
set_option maxRecDepth 20000 in
set_option maxHeartbeats 1600000 in
theorem lcl_any (x : Li) (po : Option Addr) (m pc q : Nat) (id : Int) (w : World) (h0 : w.cell? ⟨q, 0, none⟩ = some (.int .i64 id)) :
    Calls Try.prog 98 #[.agg #[.int .i64 x.id, .int .i64 x.fr, .int .i64 x.tt, .slice po m pc, .int .i64 x.fi, .int .i64 x.wd], .pointer (some ⟨q, 0, none⟩)] w fun e w' => e = .returned (.bool (x.id == id)) ∧ Below w.heap.size w w' := by
  have hlt := World.block_lt_of_cell? _ _ h0
  go_enter Try.func98, Try.ntmps98
  go_wp2
  go_ret
  exact ⟨rfl, by go_grown⟩
set_option maxRecDepth 20000 in
set_option maxHeartbeats 1600000 in
theorem lix_any {w : World} {ao : Option Addr} {n cap q : Nat} {L : Nat → Li} (id : Int) (h : RdL w (.slice ao n cap) n L) (hn : n ≤ 1048576) (h0 : w.cell? ⟨q, 0, none⟩ = some (.int .i64 id)) :
    Calls Try.prog 89 #[.slice ao n cap, .func (.func 98) #[] #[.pointer (some ⟨q, 0, none⟩)]] w fun e w' => e = .returned (.int .i64 (fnd L id n)) ∧ Below w.heap.size w w' := by
  have HR : ∀ W, Below w.heap.size w W → Hid (RdL W (.slice ao n cap) n L ∧ W.cell? ⟨q, 0, none⟩ = some (.int .i64 id)) := fun W hb => ⟨h.later hb, kold hb h0⟩
  clear h h0
  have hnI : (n : Int) ≤ 1048576 := by omega
  obtain ⟨C, hC⟩ : ∃ C, C = fnd L id n := ⟨_, rfl⟩
  have HC : Hid (C = fnd L id n) := hC
  rw [← hC]
  clear hC
  go_enter Try.func89, Try.ntmps89
  go_wp2_with fail
  go_loopw [8] (fun i wr => ∃ k : Nat, k ≤ n ∧ i = .int .i64 k ∧ Hid (Below w.heap.size w wr) ∧ Hid (fnd L id k = -1)) (fun i _ => n - (intOf i).toNat)
  case atStart => exact ⟨0, Nat.zero_le _, rfl, Below.refl _ _, rfl⟩
  case round =>
    obtain ⟨k, hk, rfl, HB, HF⟩ := hrel
    by_cases hkn : k < n
    · obtain ⟨b, off, po, pc, rfl, hc, _⟩ := (HR wr HB.out).out.1.at hkn
      obtain ⟨x, hx⟩ : ∃ x, x = L k := ⟨_, rfl⟩
      obtain ⟨m, hm⟩ : ∃ m, m = (L k).np := ⟨_, rfl⟩
      rw [← hm, ← hx] at hc
      have c0 : wr.cell? ⟨b, off + k * 6, none⟩ = some (.int .i64 x.id) := hc 0 (by omega)
      have c1 : wr.cell? ⟨b, off + k * 6 + 1, none⟩ = some (.int .i64 x.fr) := hc 1 (by omega)
      have c2 : wr.cell? ⟨b, off + k * 6 + 2, none⟩ = some (.int .i64 x.tt) := hc 2 (by omega)
      have c3 : wr.cell? ⟨b, off + k * 6 + 3, none⟩ = some (.slice po m pc) := hc 3 (by omega)
      have c4 : wr.cell? ⟨b, off + k * 6 + 4, none⟩ = some (.int .i64 x.fi) := hc 4 (by omega)
      have c5 : wr.cell? ⟨b, off + k * 6 + 5, none⟩ = some (.int .i64 x.wd) := hc 5 (by omega)
      have HX : Hid (x = L k) := hx
      have HCl := lcl_any x po m pc q id wr (HR wr HB.out).out.2
      have hkI : (k : Int) < n := by omega
      clear hc hx hm HR
      by_cases he : x.id = id
      · have hb : (x.id == id) = true := by simpa using he
        have hs : Hid (C = k) := by rw [HC.out]; exact fnd_at HF.out (by rw [← HX.out]; exact he) hkn
        rw [hb] at HCl
        clear he
        go_wp2_with (first | (go_at_call 98; refine HCl.mono ?_; rintro e w1 ⟨rfl, hb1⟩))
        go_ret
        exact ⟨by rw [hs.out]; rfl, HB.out.trans (hb1.mono HB.out.size)⟩
      · have hb : (x.id == id) = false := by simpa using he
        have HF2 : Hid (fnd L id (k + 1) = -1) := fnd_next HF.out (by rw [← HX.out]; exact he)
        rw [hb] at HCl
        clear he
        go_wp2_with (first | (go_at_call 98; refine HCl.mono ?_; rintro e w1 ⟨rfl, hb1⟩))
        go_roundw
        case rel => exact ⟨k + 1, by omega, by simp, HB.out.trans (hb1.mono HB.out.size), HF2⟩
        case measure => simp [intOf]; omega
    · obtain rfl : n = k := by omega
      have hs : Hid (C = -1) := by rw [HC.out]; exact HF.out
      clear HR
      go_wp2
      go_ret
      exact ⟨by rw [hs.out]; rfl, HB.out⟩
set_option maxRecDepth 20000 in
set_option maxHeartbeats 1600000 in
theorem iAt_any {w : World} {ao : Option Addr} {n cap : Nat} {L : Nat → Li} (id : Int) (h : RdL w (.slice ao n cap) n L) (hn : n ≤ 1048576) :
    Calls Try.prog 72 #[.slice ao n cap, .int .i64 id] w fun e w' => e = .returned (.int .i64 (fnd L id n)) ∧ Below w.heap.size w w' := by
  have HH : ∀ W, Below w.heap.size w W → Hid (RdL W (.slice ao n cap) n L) := fun W hb => h.later hb
  clear h
  go_enter Try.func72, Try.ntmps72
  go_wp2_with fail
  refine (lix_any id (HH _ (by go_grown)).out hn (by go_simp)).mono ?_
  rintro e w1 ⟨rfl, hb⟩
  have HB : Hid (Below w.heap.size w w1) := by refine box_step ?_ hb (by simp); go_grown
  clear hb HH
  go_wp2
  go_ret
  exact ⟨rfl, HB.out⟩
/-- Whose each slot is once so many slots of light x are taken out. -/
def tko (B : Int → Int → Int) (x : Li) : Nat → Int → Int → Int
  | 0 => B
  | t + 1 => fun f s => if Nt.slF x t = f ∧ Nt.slS x t = s then 0 else tko B x t f s
theorem tko_all {B : Int → Int → Int} {x : Li} (hw : 1 ≤ x.wd) {m : Nat} (hm : x.np = m) (f s : Int) : tko B x (m * x.wd.toNat) f s = if Nt.hasS x f s = true then 0 else B f s := by
  have old : ∀ {t : Nat}, (∀ u, u < t → ¬ (Nt.slF x u = f ∧ Nt.slS x u = s)) → tko B x t f s = B f s := by
    intro t
    induction t with
    | zero => intro _; rfl
    | succ t ih =>
      intro h
      show (if Nt.slF x t = f ∧ Nt.slS x t = s then 0 else tko B x t f s) = _
      rw [if_neg (h t (by omega)), ih fun u hu => h u (by omega)]
  have new : ∀ {t u : Nat}, u < t → Nt.slF x u = f ∧ Nt.slS x u = s → tko B x t f s = 0 := by
    intro t
    induction t with
    | zero => intro u hu _; omega
    | succ t ih =>
      intro u hu h
      show (if Nt.slF x t = f ∧ Nt.slS x t = s then 0 else tko B x t f s) = _
      by_cases e : Nt.slF x t = f ∧ Nt.slS x t = s
      · rw [if_pos e]
      · rw [if_neg e]
        by_cases c : u = t
        · subst c; exact absurd h e
        · exact ih (show u < t by omega) h
  subst hm
  by_cases h : Nt.hasS x f s = true
  · rw [if_pos h]
    obtain ⟨t, a, b, c⟩ := Nt.sl_of hw h
    exact new a ⟨b, c⟩
  · rw [if_neg h]
    refine old fun u hu e => h ?_
    have := Nt.sl_has hw hu
    rwa [e.1, e.2] at this
/-- 'delete(m, k)' of a book. -/
theorem del_book {w : World} {ops : Array Oper} {rest : List Oper} {o : Oper} {a : Act} {Q : Exit → Act → World → Prop} {b n : Nat} {B : Int → Int → Int} (hB : Book w b n B)
    (hg : o.guard = none) (m x : Operand) (hop : o.op = Op.call { callee := Callee.builtin Builtin.delete, args := #[m, x], argTypes := #[124, 145] }) (f s : Int) (wf : W64 f) (ws : W64 s) (hm : a.eval m = .map (some b)) (hx : a.eval x = .agg #[.int .i64 f, .int .i64 s])
    (hK : ∀ w', Book w' b n (fun f' s' => if f = f' ∧ s = s' then 0 else B f' s') → w.grownBy w' (some b) → wpList Try.prog ops Q rest (a.put o.dst (.tuple #[])) w') : wpList Try.prog ops Q (o :: rest) a w := by
  obtain ⟨D, h1, h2, h3⟩ := hB
  refine wpList_delete_own w hg m x 124 145 hop 2 law115 Try.underlying124 _ b n D hm h1 _ _ hx (key115 wf ws) fun w' h4 h5 => hK w' ⟨D.del (kf f s), h4, h2.del _, fun f' s' wf' ws' => ?_⟩ h5.grown
  show _ = DataW.lit (Lit.int .i64 (if f = f' ∧ s = s' then 0 else B f' s')) ∧ _ = decide ((if f = f' ∧ s = s' then 0 else B f' s') ≠ 0)
  by_cases e : f = f' ∧ s = s'
  · obtain ⟨rfl, rfl⟩ := e
    rw [if_pos ⟨rfl, rfl⟩]
    exact ⟨atKey_del_same _, by rw [has_del_same]; simp⟩
  · have hne : kf f' s' ≠ kf f s := fun h => by
      obtain ⟨rfl, rfl⟩ := kf_inj wf' ws' wf ws h
      exact e ⟨rfl, rfl⟩
    rw [if_neg e, atKey_del_other hne, has_del_other hne]
    exact h3 f' s' wf' ws'
end Go.Proofs.Ytinfbbbgfkaioaa
