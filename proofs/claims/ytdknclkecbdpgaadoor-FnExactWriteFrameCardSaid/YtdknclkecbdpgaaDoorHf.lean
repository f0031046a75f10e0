/- Bytes coded, of both packages. -/
import Derived.Test.YtdknclkecbdpgaaDoorHe
import Derived.Test.YtdknclkecbdpgaaDoorWx
namespace Go.Proofs.YtdknclkecbdpgaaDoor
open Go.RowKit
set_option linter.unusedVariables false
set_option linter.unusedSimpArgs false
theorem push2_law {ops : Array Oper} {rest : List Oper} {o : Oper} {a : Act} {Q : Exit → Act → World → Prop} (hgd : o.guard = none) (s x : Operand) (t : TypeId)
    (ho : o.op = .call { callee := .builtin .append, args := #[s, x], argTypes := #[t, t] }) (e : TypeId) (z : Value) (m bytes : Nat) (ht : Tryd.prog.underlying t = some (.slice e))
    (hinfo : (Tryd.prog.info? e).map (fun i => (i.zero, i.size, i.bytes)) = some (some z, m, bytes)) (hz1 : z.cells.size = m) (hm : 0 < m) (hby : bytes ≤ 100) (w : World) (us : List Value) (hul : us.length = 2 * m) (hu : ∀ u ∈ us, u.oneCell' = true)
    (base : Nat) (v : Value) (n : Nat) (xs : List Value) (hs : a.eval s = v) (hown : w.ownsRow base e m v n xs) (c : Nat) (hx : a.eval x = .slice (some ⟨w.heap.size, 0, none⟩) 2 c) (hn : n ≤ 1000000000) (hbase : base ≤ w.heap.size)
    (h : ∀ v' w', w'.ownsRow base e m v' (n + 2) (xs ++ us) → (w.alloc (.cells us.toArray e)).grownBy w' v.ownBlock → v' ≠ .slice none 0 0 → wpList Tryd.prog ops Q rest (a.put o.dst v') w') : wpList Tryd.prog ops Q (o :: rest) a (w.alloc (.cells us.toArray e)) := by
  obtain ⟨i, h1, h2, h3, h4⟩ := info_parts hinfo
  refine wpList_append_own _ hgd s x t ho base e i z m bytes ht h1 h2 h3 h4 hz1 hm v n xs hs (hown.alloc _) ⟨w.heap.size, 0, none⟩ 2 c us hx (by omega) ?_ hu ?_ ?_ ?_ fun v' w' a1 a2 a3 => h v' w' a1 a2 ?_
  · intro j y hj
    have : (w.alloc (.cells us.toArray e)).heap[w.heap.size]? = some (.cells us.toArray e) := heap_alloc_new _ _
    have e0 : (⟨w.heap.size, 0, none⟩ : Addr).add j = ⟨w.heap.size, j, none⟩ := by
      unfold Addr.add
      split
      · rename_i h; subst h; rfl
      · simp
    rw [e0]
    unfold World.cell?
    rw [this]
    simpa using hj
  · unfold maxLen; omega
  · have : (n + 2) * bytes ≤ (n + 2) * 100 := Nat.mul_le_mul_left _ hby
    omega
  · simp; omega
  · intro e
    have := (a3.1 e).2
    omega
theorem vl_two (F : Nat → Value) (k : Nat) : vl F k ++ [F k, F (k + 1)] = vl F (k + 2) := by
  rw [← vl_push F (k + 1), ← vl_push F k, List.append_assoc]
  rfl
theorem Ls.push2 {w wr w3 : World} {base : Nat} {t T : TypeId} {v v1 : Value} {n : Nat} {F : Nat → Value} {cs : Array Value} (h : Ls w wr base t v n F cs T) {o : Obj} {us : List Value} (own3 : w3.ownsRow base t 1 v1 (n + 2) us) (hus : us = vl F n ++ [F n, F (n + 1)]) (grow3 : (wr.alloc o).grownBy w3 v.ownBlock) : Ls w w3 base t v1 (n + 2) F cs T := by
  subst hus
  have b3 : Below base wr w3 := push_below h.own grow3 (Below.refl _ _) h.lt
  exact ⟨by rw [← vl_two]; exact own3, (b3.block _ (by have := h.lb; omega)).trans h.box, h.below.trans (b3.mono (by have := h.lb; omega)), h.lb, Nat.le_trans h.lt b3.size⟩
/-- The coded bytes. -/
def hco (F : Nat → Int) (i : Nat) : Int := if i % 2 = 0 then hc (F (i / 2) / 16) else hc (F (i / 2) % 16)
theorem hco_0 (F : Nat → Int) (k : Nat) : hco F (2 * k) = hc (F k / 16) := by
  unfold hco
  rw [if_pos (by omega), show 2 * k / 2 = k by omega]
theorem hco_1 (F : Nat → Int) (k : Nat) : hco F (2 * k + 1) = hc (F k % 16) := by
  unfold hco
  rw [if_neg (by omega), show (2 * k + 1) / 2 = k by omega]
theorem hm_hi (b : Int) : hm (b / 128 % 2) (b / 64 % 2) (b / 32 % 2) (b / 16 % 2) = hc (b / 16) := by
  unfold hc
  rw [show b / 16 / 8 % 2 = b / 128 % 2 by omega, show b / 16 / 4 % 2 = b / 64 % 2 by omega, show b / 16 / 2 % 2 = b / 32 % 2 by omega]
theorem hm_lo (b : Int) : hm (b / 8 % 2) (b / 4 % 2) (b / 2 % 2) (b % 2) = hc (b % 16) := by
  unfold hc
  rw [show b % 16 / 8 % 2 = b / 8 % 2 by omega, show b % 16 / 4 % 2 = b / 4 % 2 by omega, show b % 16 / 2 % 2 = b / 2 % 2 by omega, show b % 16 % 2 = b % 2 by omega]
theorem b01 (x : Int) : x % 2 = 0 ∨ x % 2 = 1 := by omega
set_option maxRecDepth 20000 in
set_option maxHeartbeats 3200000 in
theorem iHam_bad {w : World} {v : Value} {n : Nat} {F : Nat → Int} (h : RdB w v n F) (hm : n ≤ 1000000000000) (hn : 100000 < n) (hE : Et w) :
    FB 5 50 #[v] w 2 0 (cF F) := by
  unfold FB
  obtain ⟨ao, cap, rfl⟩ := h.form
  have H : Hid (RdB w (.slice ao n cap) n F) := h
  have HS : Hid (∀ W, RdB W (.slice ao n cap) n F → Calls Tryd.prog 90 #[.slice ao n cap] W fun e w' => e = .returned (er 2) ∧ w' = W) := fun W hW => by rw [← mb_many hn]; exact bytesFault_any _ _ _ hm _
  have HE : Hid (Et w) := hE
  obtain ⟨w0, hw0⟩ : ∃ W, W = w.alloc (.cells #[.int .i64 0, .slice none 0 0] 47) := ⟨_, rfl⟩
  have H0 : Hid (Blk w0 w.heap.size #[.int .i64 0, .slice none 0 0] 47 ∧ Below w.heap.size w w0) := by rw [hw0]; exact ⟨Blk.new rfl, (Below.refl _ _).alloc (Nat.le_refl _) _⟩
  clear h hE
  go_enter Tryd.func50, Tryd.ntmps50
  go_wp2_with fail
  rw [← hw0]
  refine Calls.mono (HS.out _ (H.out.later H0.out.2)) ?_
  rintro e wa ⟨rfl, rfl⟩
  clear hw0
  go_wp2_with fail
  refine Calls.mono (code_any 2 _ (HE.out.later H0.out.2)) ?_
  rintro e w1 ⟨rfl, hb⟩
  have H1 : Hid (Blk w1 w.heap.size #[.int .i64 0, .slice none 0 0] 47 ∧ Below w.heap.size w w1) := ⟨H0.out.1.later hb, H0.out.2.trans (hb.mono H0.out.2.size)⟩
  clear hb H0 HS HE
  have c0 := H1.out.1.cell (j := 0) (v := .int .i64 0) rfl
  have c1 := H1.out.1.cell (j := 1) (v := .slice none 0 0) rfl
  have f0 := H1.out.1.frozen 0
  have f1 := H1.out.1.frozen 1
  go_wp2
  refine bodyPost_ret (v := .agg #[.int .i64 2, .slice none 0 0]) (by simp [results, Tryd.results50, go_sem, c0, c1]) rfl ⟨_, rfl, Or.inl ⟨rfl, rfl⟩, (H1.out.2.setCell (by simp) _).setCell (by simp) _⟩
set_option maxRecDepth 20000 in
set_option maxHeartbeats 3200000 in
theorem sHam_bad {w : World} {v : Value} {n : Nat} {F : Nat → Int} (h : RdB w v n F) (hn : 100000 < n) :
    FB 5 49 #[v] w 2 0 (cF F) := by
  unfold FB
  obtain ⟨ao, cap, rfl⟩ := h.form
  clear h
  have hd : decide ((100000 : Int) < n) = true := by simp; omega
  go_enter Tryd.func49, Tryd.ntmps49
  go_wp2_with fail
  refine Calls.mono (many_any _ _ _ _) ?_
  rintro e w1 ⟨rfl, rfl⟩
  rw [hd]
  go_wp2
  refine bodyPost_ret (v := .agg #[.int .i64 2, .slice none 0 0]) (by simp [results, Tryd.results49, go_sem]) rfl ⟨_, rfl, Or.inl ⟨rfl, rfl⟩, by go_grown⟩
set_option maxRecDepth 20000 in
set_option maxHeartbeats 3200000 in
theorem iHam_ok {w : World} {v : Value} {n : Nat} {F : Nat → Int} (h : RdB w v n F) (hF : By n F) (hn : n ≤ 100000) (hE : Et w) :
    FB 5 50 #[v] w 0 (2 * n) (cF (hco F)) := by
  unfold FB
  obtain ⟨ao, cap, rfl⟩ := h.form
  have H : Hid (RdB w (.slice ao n cap) n F) := h
  have HF : Hid (By n F) := hF
  have HS : Hid (∀ W, RdB W (.slice ao n cap) n F → Calls Tryd.prog 90 #[.slice ao n cap] W fun e w' => e = .returned (er 0) ∧ w' = W) := fun W hW => by rw [← mb_ok hn]; exact bytesFault_any _ _ _ (by omega) _
  have HE : Hid (Et w) := hE
  have hmk : ∀ W : World, (Instr.makeSlice 22 (.int .i64 0) (.int .i64 (2 * (n : Int)))).run Tryd.prog W = .ok (.slice (some ⟨W.heap.size, 0, none⟩) 0 (2 * n)) (W.alloc (.cells (madeCells #[.int .u8 0] (2 * n)) 5)) := fun W => by
    have := mk0 (2 * n) (by omega) W
    rw [Nat.mul_one] at this
    rw [show (2 * (n : Int)) = ((2 * n : Nat) : Int) by omega]
    exact this
  obtain ⟨w0, hw0⟩ : ∃ W, W = w.alloc (.cells #[.int .i64 0, .slice none 0 0] 47) := ⟨_, rfl⟩
  have H0 : Hid (Blk w0 w.heap.size #[.int .i64 0, .slice none 0 0] 47 ∧ Below w.heap.size w w0) := by rw [hw0]; exact ⟨Blk.new rfl, (Below.refl _ _).alloc (Nat.le_refl _) _⟩
  clear h hE hF
  go_enter Tryd.func50, Tryd.ntmps50
  go_wp2_with fail
  rw [← hw0]
  refine Calls.mono (HS.out _ (H.out.later H0.out.2)) ?_
  rintro e wa ⟨rfl, rfl⟩
  clear hw0
  go_wp2_with fail
  refine Calls.mono (code_any 0 _ (HE.out.later H0.out.2)) ?_
  rintro e w1 ⟨rfl, hb⟩
  have H1 : Hid (Blk w1 w.heap.size #[.int .i64 0, .slice none 0 0] 47 ∧ Below w.heap.size w w1) := ⟨H0.out.1.later hb, H0.out.2.trans (hb.mono H0.out.2.size)⟩
  clear hb H0 HS HE
  go_wp2_with fail
  clear hmk
  have HL0 : Hid (Ls w (w1.alloc (.cells (madeCells #[.int .u8 0] (2 * n)) 5)) w1.heap.size 5 (.slice (some ⟨w1.heap.size, 0, none⟩) 0 (2 * n)) 0 (cF (hco F)) #[.int .i64 0, .slice none 0 0] 47) := by
    have hw9 := owns_made w1 #[.int .u8 0] (2 * n) 1 5 (by unfold maxLen; omega)
    rw [Nat.mul_one] at hw9
    exact ⟨hw9, H1.out.1.alloc _, H1.out.2.alloc H1.out.2.size _, H1.out.1.lt, by simp⟩
  clear H1
  go_loopw [4, 20] (fun v i wr => ∃ k : Nat, k ≤ n ∧ i = .int .i64 k ∧ Hid (Ls w wr w1.heap.size 5 v (2 * k) (cF (hco F)) #[.int .i64 0, .slice none 0 0] 47)) (fun _ i _ => n - (intOf i).toNat)
  case atStart => exact ⟨0, Nat.zero_le _, rfl, HL0⟩
  case round =>
    obtain ⟨k, hk, rfl, HL⟩ := hrel
    clear HL0
    by_cases hkn : k < n
    · rcases H.out with ⟨ao', cap', e1, e2⟩ | ⟨b, off, cap', e1, hcell⟩
      · omega
      cases e1
      have g1 : wr.cell? ⟨b, off + k, none⟩ = some (.int .u8 (F k)) := (HL.out.below.cell (World.block_lt_of_cell? _ _ (hcell k hkn))).trans (hcell k hkn)
      obtain ⟨f0, f1⟩ := HF.out k hkn
      have HU : Hid (vl (cF (hco F)) (2 * k) ++ [Value.int IntKind.u8 (hc (F k / 16)), Value.int IntKind.u8 (hc (F k % 16))] = vl (cF (hco F)) (2 * k) ++ [cF (hco F) (2 * k), cF (hco F) (2 * k + 1)]) := by show _ = _ ++ [Value.int IntKind.u8 (hco F (2 * k)), Value.int IntKind.u8 (hco F (2 * k + 1))]; rw [hco_0, hco_1]
      obtain ⟨f, hf⟩ : ∃ f, f = F k := ⟨_, rfl⟩
      rw [← hf] at g1 f0 f1 HU
      clear hf hcell
      go_wp2_with fail
      refine Calls.mono (coded_any (x := f / 16) (by omega) (by omega) _) ?_
      rintro e wx ⟨rfl, rfl⟩
      go_wp2_with fail
      refine Calls.mono (coded_any (x := f % 16) (by omega) (by omega) _) ?_
      rintro e wy ⟨rfl, rfl⟩
      go_wp2_with (first | (at_builtin; refine push2_law rfl (.tmp 24) (.tmp 31) 22 rfl 5 (.int .u8 0) 1 1 Tryd.underlying22 info5 rfl (by decide) (by decide) _ [_, _] rfl (by intro u hu; simp at hu; rcases hu with rfl | rfl <;> rfl) w1.heap.size u4 (2 * k) _ rfl HL.out.own 2 rfl (by omega) HL.out.lt ?_; intro v1 w3 own3 grow3 nn3))
      have HN : Hid (Ls w w3 w1.heap.size 5 v1 (2 * (k + 1)) (cF (hco F)) #[.int .i64 0, .slice none 0 0] 47) := HL.out.push2 own3 HU.out grow3
      clear own3 grow3 nn3 HL HU
      go_wp2
      go_roundw
      case rel => exact ⟨k + 1, by omega, by simp, HN⟩
      case measure => simp [intOf]; omega
    · obtain rfl : k = n := by omega
      have c0 := HL.out.box.cell (j := 0) (v := .int .i64 0) rfl
      have c1 := HL.out.box.cell (j := 1) (v := .slice none 0 0) rfl
      have f0 := HL.out.box.frozen 0
      have f1 := HL.out.box.frozen 1
      obtain ⟨ao2, cap2, rfl⟩ := HL.out.form
      go_wp2
      refine bodyPost_ret (v := .agg #[.int .i64 0, .slice ao2 (2 * k) cap2]) (by simp [results, Tryd.results50, go_sem, c0, c1]) rfl ⟨_, rfl, ?_⟩
      exact HL.out.told _ _
set_option maxRecDepth 20000 in
set_option maxHeartbeats 3200000 in
theorem sHam_ok {w : World} {v : Value} {n : Nat} {F : Nat → Int} (h : RdB w v n F) (hF : By n F) (hn : n ≤ 100000) :
    FB 5 49 #[v] w 0 (2 * n) (cF (hco F)) := by
  unfold FB
  obtain ⟨ao, cap, rfl⟩ := h.form
  have H : Hid (RdB w (.slice ao n cap) n F) := h
  have HF : Hid (By n F) := hF
  have hd : decide ((100000 : Int) < n) = false := by simp; omega
  obtain ⟨w0, hw0⟩ : ∃ W, W = w.alloc (.cells #[.int .i64 0, .slice none 0 0] 47) := ⟨_, rfl⟩
  have H0 : Hid (Blk w0 w.heap.size #[.int .i64 0, .slice none 0 0] 47 ∧ Below w.heap.size w w0) := by rw [hw0]; exact ⟨Blk.new rfl, (Below.refl _ _).alloc (Nat.le_refl _) _⟩
  clear h hF
  go_enter Tryd.func49, Tryd.ntmps49
  go_wp2_with fail
  rw [← hw0]
  refine Calls.mono (many_any _ _ _ _) ?_
  rintro e w1 ⟨rfl, rfl⟩
  rw [hd]
  have H1 : Hid (Blk w1 w.heap.size #[.int .i64 0, .slice none 0 0] 47 ∧ Below w.heap.size w w1) := H0.out
  clear hw0 H0
  go_wp2_with fail
  have HL0 : Hid (Ls w (w1.alloc (.cells #[] 5)) w1.heap.size 5 (.slice (some ⟨w1.heap.size, 0, none⟩) 0 0) 0 (cF (hco F)) #[.int .i64 0, .slice none 0 0] 47) := Ls.start _ _ H1.out.2 H1.out.1 _
  clear H1
  go_loopw [3, 4] (fun v i wr => ∃ k : Nat, k ≤ n ∧ i = .int .i64 k ∧ Hid (Ls w wr w1.heap.size 5 v (2 * k) (cF (hco F)) #[.int .i64 0, .slice none 0 0] 47)) (fun _ i _ => n - (intOf i).toNat)
  case atStart => exact ⟨0, Nat.zero_le _, rfl, HL0⟩
  case round =>
    obtain ⟨k, hk, rfl, HL⟩ := hrel
    clear HL0
    by_cases hkn : k < n
    · rcases H.out with ⟨ao', cap', e1, e2⟩ | ⟨b, off, cap', e1, hcell⟩
      · omega
      cases e1
      have g1 : wr.cell? ⟨b, off + k, none⟩ = some (.int .u8 (F k)) := (HL.out.below.cell (World.block_lt_of_cell? _ _ (hcell k hkn))).trans (hcell k hkn)
      obtain ⟨f0, f1⟩ := HF.out k hkn
      have HU : Hid (vl (cF (hco F)) (2 * k) ++ [Value.int IntKind.u8 (hc (F k / 16)), Value.int IntKind.u8 (hc (F k % 16))] = vl (cF (hco F)) (2 * k) ++ [cF (hco F) (2 * k), cF (hco F) (2 * k + 1)]) := by show _ = _ ++ [Value.int IntKind.u8 (hco F (2 * k)), Value.int IntKind.u8 (hco F (2 * k + 1))]; rw [hco_0, hco_1]
      obtain ⟨f, hf⟩ : ∃ f, f = F k := ⟨_, rfl⟩
      rw [← hf] at g1 f0 f1 HU
      clear hf hcell
      go_wp2_with fail
      refine Calls.mono (bit1 f0 f1 _) ?_
      rintro e wz ⟨rfl, rfl⟩
      go_wp2_with fail
      refine Calls.mono (bit2 f0 f1 _) ?_
      rintro e wz ⟨rfl, rfl⟩
      go_wp2_with fail
      refine Calls.mono (bit3 f0 f1 _) ?_
      rintro e wz ⟨rfl, rfl⟩
      go_wp2_with fail
      refine Calls.mono (bit4 f0 f1 _) ?_
      rintro e wz ⟨rfl, rfl⟩
      go_wp2_with fail
      refine Calls.mono (ham_any (b01 _) (b01 _) (b01 _) (b01 _) _) ?_
      rintro e wx ⟨rfl, rfl⟩
      rw [hm_hi]
      go_wp2_with fail
      refine Calls.mono (bit5 f0 f1 _) ?_
      rintro e wz ⟨rfl, rfl⟩
      go_wp2_with fail
      refine Calls.mono (bit6 f0 f1 _) ?_
      rintro e wz ⟨rfl, rfl⟩
      go_wp2_with fail
      refine Calls.mono (bit7 f0 f1 _) ?_
      rintro e wz ⟨rfl, rfl⟩
      go_wp2_with fail
      refine Calls.mono (bit8 f0 f1 _) ?_
      rintro e wz ⟨rfl, rfl⟩
      go_wp2_with fail
      refine Calls.mono (ham_any (b01 _) (b01 _) (b01 _) (b01 _) _) ?_
      rintro e wy ⟨rfl, rfl⟩
      rw [hm_lo]
      go_wp2_with (first | (at_builtin; refine push2_law rfl (.tmp 20) (.tmp 39) 22 rfl 5 (.int .u8 0) 1 1 Tryd.underlying22 info5 rfl (by decide) (by decide) _ [_, _] rfl (by intro u hu; simp at hu; rcases hu with rfl | rfl <;> rfl) w1.heap.size u3 (2 * k) _ rfl HL.out.own 2 rfl (by omega) HL.out.lt ?_; intro v1 w3 own3 grow3 nn3))
      have HN : Hid (Ls w w3 w1.heap.size 5 v1 (2 * (k + 1)) (cF (hco F)) #[.int .i64 0, .slice none 0 0] 47) := HL.out.push2 own3 HU.out grow3
      clear own3 grow3 nn3 HL HU
      go_wp2
      go_roundw
      case rel => exact ⟨k + 1, by omega, by simp, HN⟩
      case measure => simp [intOf]; omega
    · obtain rfl : k = n := by omega
      have c0 := HL.out.box.cell (j := 0) (v := .int .i64 0) rfl
      have c1 := HL.out.box.cell (j := 1) (v := .slice none 0 0) rfl
      have f0 := HL.out.box.frozen 0
      have f1 := HL.out.box.frozen 1
      obtain ⟨ao2, cap2, rfl⟩ := HL.out.form
      go_wp2
      refine bodyPost_ret (v := .agg #[.int .i64 0, .slice ao2 (2 * k) cap2]) (by simp [results, Tryd.results49, go_sem, c0, c1]) rfl ⟨_, rfl, ?_⟩
      exact HL.out.told _ _
end Go.Proofs.YtdknclkecbdpgaaDoor
