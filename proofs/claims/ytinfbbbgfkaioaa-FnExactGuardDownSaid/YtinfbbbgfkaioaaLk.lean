/- Copies of rows, of lights and of lists of lights: contracts. -/
import Derived.Test.YtinfbbbgfkaioaaLc
import Derived.Test.YtinfbbbgfkaioaaAp
namespace Go.Proofs.Ytinfbbbgfkaioaa
open Go.RowKit
set_option linter.unusedVariables false
set_option linter.unusedSimpArgs false
/-- 'append(list, more...)' to an empty list that has just been made. -/
theorem app_whole {ops : Array Oper} {rest : List Oper} {o : Oper} {a : Act} {Q : Exit → Act → World → Prop} (hgd : o.guard = none) (s x : Operand) (t : TypeId)
    (ho : o.op = .call { callee := .builtin .append, args := #[s, x], argTypes := #[t, t] }) (e : TypeId) (z : Value) (sz bytes : Nat) (ht : Try.prog.underlying t = some (.slice e))
    (hinfo : (Try.prog.info? e).map (fun i => (i.zero, i.size, i.bytes)) = some (some z, sz, bytes)) (hz1 : z.cells.size = sz) (hm : 0 < sz) (hby : bytes ≤ 100) (w : World)
    (F : Nat → List Value) (hF : ∀ i, (F i).length = sz) (h1c : ∀ i, ∀ u ∈ F i, u.oneCell' = true) (f : Nat → Nat → Value) (n : Nat) (hf : ∀ i, i < n → ∀ j, j < sz → (F i)[j]? = some (f i j))
    (hs : a.eval s = .slice (some ⟨w.heap.size, 0, none⟩) 0 0) (b off c : Nat) (hx : a.eval x = .slice (some ⟨b, off, none⟩) n c) (hc : ∀ i, i < n → ∀ j, j < sz → w.cell? ⟨b, off + i * sz + j, none⟩ = some (f i j)) (hn : n ≤ 2000000)
    (h : ∀ g cap w', n ≤ cap → w.heap.size ≤ g → SegV w' g e n sz f → Below w.heap.size w w' → wpList Try.prog ops Q rest (a.put o.dst (.slice (some ⟨g, 0, none⟩) n cap)) w') : wpList Try.prog ops Q (o :: rest) a (w.alloc (.cells #[] e)) := by
  obtain ⟨i, h1, h2, h3, h4⟩ := infoV_parts hinfo
  refine wpList_append_own _ hgd s x t ho w.heap.size e i z sz bytes ht h1 h2 h3 h4 hz1 hm _ 0 [] hs (ownsV_empty w e sz) ⟨b, off, none⟩ n c (flat F n) hx (flat_len hF n) ?_ ?_ ?_ ?_ ?_ fun v' w' a1 a2 a3 => ?_
  · intro j u hj
    have e0 : (⟨b, off, none⟩ : Addr).add j = ⟨b, off + j, none⟩ := by
      unfold Addr.add
      split
      · rename_i h; subst h; rfl
      · simp
    rw [e0]
    have hl := (List.getElem?_eq_some_iff.1 hj).1
    rw [flat_len hF] at hl
    have hd : j / sz < n := (Nat.div_lt_iff_lt_mul hm).2 hl
    have hr : j % sz < sz := Nat.mod_lt _ hm
    have e1 : j / sz * sz + j % sz = j := by have := Nat.div_add_mod j sz; rw [Nat.mul_comm] at this; exact this
    have e2 := flat_at hF (n := n) (i := j / sz) (j := j % sz) hd hr
    rw [e1, hj, hf _ hd _ hr] at e2
    have e3 := hc _ hd _ hr
    rw [Nat.add_assoc, e1, ← e2] at e3
    exact (((Below.refl _ _).alloc (Nat.le_refl _) _).cell (World.block_lt_of_cell? _ _ e3)).trans e3
  · intro u hu
    unfold flat at hu
    rw [List.mem_flatMap] at hu
    obtain ⟨k, _, hk⟩ := hu
    exact h1c k u hk
  · unfold maxLen; omega
  · have : (0 + n) * bytes ≤ (0 + n) * 100 := Nat.mul_le_mul_left _ hby
    omega
  · simp
  · have hne : v' ≠ .slice none 0 0 := fun e => by have := (a3.1 e).1; simp at this
    rw [Nat.zero_add, List.nil_append] at a1
    obtain ⟨g, cap, rfl, hg, hsg⟩ := owned_segV hF hf a1 hne
    have hcap : n ≤ cap := by
      obtain ⟨_, h5 | ⟨g', cap', cur, hv, _, _, h6, _⟩⟩ := a1
      · exact absurd h5.1 hne
      · simp only [Value.slice.injEq] at hv
        rw [hv.2.2]; exact h6
    refine h g cap w' hcap hg hsg (((Below.refl _ _).alloc (Nat.le_refl _) _).grown a2 (by simp) fun k hk => ?_)
    simp [Value.ownBlock] at hk
    omega
theorem seg_of_one {w : World} {g : Nat} {t : TypeId} {n : Nat} {f : Nat → Value} (h : SegV w g t n 1 (fun i _ => f i)) : Seg w g t 0 n f := by
  obtain ⟨c, hb, hc⟩ := h
  refine ⟨c, hb, fun i hi => ?_⟩
  have := hc i hi 0 (by omega)
  simpa using this
theorem infoNum : (Try.prog.info? 2).map (fun i => (i.zero, i.size, i.bytes)) = some (some (.int .i64 0), 1, 8) := by kernel_rfl
theorem app_row {ops : Array Oper} {rest : List Oper} {o : Oper} {a : Act} {Q : Exit → Act → World → Prop} (hgd : o.guard = none) (s x : Operand)
    (ho : o.op = .call { callee := .builtin .append, args := #[s, x], argTypes := #[72, 72] }) (w : World) (p : Nat → Int) (n : Nat)
    (hs : a.eval s = .slice (some ⟨w.heap.size, 0, none⟩) 0 0) (b off c : Nat) (hx : a.eval x = .slice (some ⟨b, off, none⟩) n c) (hc : ∀ i, i < n → ∀ j, j < 1 → w.cell? ⟨b, off + i * 1 + j, none⟩ = some (.int .i64 (p i))) (hn : n ≤ 2000000)
    (h : ∀ g cap w', w.heap.size ≤ g → SegV w' g 2 n 1 (fun i _ => .int .i64 (p i)) → Below w.heap.size w w' → wpList Try.prog ops Q rest (a.put o.dst (.slice (some ⟨g, 0, none⟩) n cap)) w') : wpList Try.prog ops Q (o :: rest) a (w.alloc (.cells #[] 2)) :=
  app_whole hgd s x 72 ho 2 (.int .i64 0) 1 8 Try.underlying72 infoNum rfl (by decide) (by decide) w (fun i => [.int .i64 (p i)]) (fun _ => rfl) (by simp [Value.oneCell']) (fun i _ => .int .i64 (p i)) n (fun i hi j hj => by
    obtain rfl : j = 0 := by omega
    rfl) hs b off c hx hc hn fun g cap w' _ => h g cap w'
set_option maxRecDepth 20000 in
set_option maxHeartbeats 1600000 in
theorem clone_any {w : World} {po : Option Addr} {m pc : Nat} {p : Nat → Int} (h : RdRow w (.slice po m pc) m p) (hm : 0 < m) (hn : m ≤ 1048576) :
    Calls Try.prog 91 #[.slice po m pc] w fun e w' => ∃ g cap, e = .returned (.slice (some ⟨g, 0, none⟩) m cap) ∧ w.heap.size ≤ g ∧ Seg w' g 2 0 m (fun i => .int .i64 (p i)) ∧ Below w.heap.size w w' := by
  obtain ⟨b, off, rfl, -⟩ := h.at hm
  have H : Hid (∀ i, i < m → ∀ j, j < 1 → w.cell? ⟨b, off + i * 1 + j, none⟩ = some (.int .i64 (p i))) := by
    intro i hi j hj
    obtain ⟨b2, off2, e, hc⟩ := h.at hi
    simp only [Option.some.injEq, Addr.mk.injEq] at e
    obtain ⟨rfl, rfl, _⟩ := e
    obtain rfl : j = 0 := by omega
    simpa using hc
  clear h
  have q33 : ∀ (w : World), (binOp .eql 72 (.slice (some ⟨b, off, none⟩) m pc) (.slice none 0 0)).run Try.prog w = .ok (.bool false) w := fun w => run_eql_nil_slice w 72 2 (some ⟨b, off, none⟩) m pc 0 0 Try.underlying72
  go_enter Try.func91, Try.ntmps91
  go_wp2_with (first | (at_builtin; refine app_row rfl (.tmp 5) (.tmp 6) rfl _ _ m rfl b off pc rfl H.out (by omega) ?_; intro g cap w1 hg hsg hb1))
  have H1 : Hid (w.heap.size ≤ g ∧ Seg w1 g 2 0 m (fun i => .int .i64 (p i)) ∧ Below w.heap.size w w1) := ⟨hg, seg_of_one hsg, hb1⟩
  clear hg hsg hb1
  go_wp2
  go_ret
  exact ⟨g, cap, rfl, H1.out⟩
set_option maxRecDepth 20000 in
set_option maxHeartbeats 1600000 in
theorem sCopy_any {w : World} {po : Option Addr} {m pc : Nat} (x : Li) (h : RdRow w (.slice po m pc) m x.p) (hm : 0 < m) (hn : m ≤ 1048576) :
    Calls Try.prog 85 #[.agg #[.int .i64 x.id, .int .i64 x.fr, .int .i64 x.tt, .slice po m pc, .int .i64 x.fi, .int .i64 x.wd]] w fun e w' => ∃ g cap, e = .returned (.agg #[.int .i64 x.id, .int .i64 x.fr, .int .i64 x.tt, .slice (some ⟨g, 0, none⟩) m cap, .int .i64 x.fi, .int .i64 x.wd]) ∧ w.heap.size ≤ g ∧ Seg w' g 2 0 m (fun i => .int .i64 (x.p i)) ∧ Below w.heap.size w w' := by
  obtain ⟨b, off, rfl, -⟩ := h.at hm
  obtain ⟨X, hX⟩ : ∃ X, X = (w.alloc (.cells #[.int .i64 x.id, .int .i64 x.fr, .int .i64 x.tt, .slice (some ⟨b, off, none⟩) m pc, .int .i64 x.fi, .int .i64 x.wd] 80)).alloc (.cells #[.int .i64 0, .int .i64 0, .int .i64 0, .slice none 0 0, .int .i64 0, .int .i64 0] 80) := ⟨_, rfl⟩
  have BX : Hid (Blk X w.heap.size #[.int .i64 x.id, .int .i64 x.fr, .int .i64 x.tt, .slice (some ⟨b, off, none⟩) m pc, .int .i64 x.fi, .int .i64 x.wd] 80 ∧ Blk X (w.heap.size + 1) #[.int .i64 0, .int .i64 0, .int .i64 0, .slice none 0 0, .int .i64 0, .int .i64 0] 80 ∧ Below w.heap.size w X) := by rw [hX]; exact ⟨(Blk.new rfl).alloc _, Blk.new (by simp), ((Below.refl _ _).alloc (Nat.le_refl _) _).alloc (by simp) _⟩
  have H : Hid (∀ i, i < m → ∀ j, j < 1 → X.cell? ⟨b, off + i * 1 + j, none⟩ = some (.int .i64 (x.p i))) := by
    intro i hi j hj
    obtain ⟨b2, off2, e, hc⟩ := h.at hi
    simp only [Option.some.injEq, Addr.mk.injEq] at e
    obtain ⟨rfl, rfl, _⟩ := e
    obtain rfl : j = 0 := by omega
    have := kold BX.out.2.2 hc
    simpa using this
  clear h
  have hXz : w.heap.size + 2 ≤ X.heap.size := by have := BX.out.2.1.lt; omega
  go_enter Try.func85, Try.ntmps85
  go_upto_region 1 with fail
  rw [← hX]
  clear hX
  have x3 := BX.out.1.cell (j := 3) (v := .slice (some ⟨b, off, none⟩) m pc) rfl
  have hl := BX.out.1.lt
  go_upto_region 2 with (first | (at_builtin; refine app_row rfl (.tmp 3) (.tmp 5) rfl _ _ m rfl b off pc rfl H.out (by omega) ?_; intro g cap w1 hg hsg hb1; have y3 := (BX.out.1.old hb1).cell (j := 3) (v := .slice (some ⟨b, off, none⟩) m pc) rfl; have fA := (BX.out.1.old hb1).frozen 3; have hlA := (BX.out.1.old hb1).lt))
  have H1 : Hid (w.heap.size + 2 ≤ g ∧ Seg w1 g 2 0 m (fun i => .int .i64 (x.p i)) ∧ Below w.heap.size w w1) := ⟨by omega, seg_of_one hsg, BX.out.2.2.trans (hb1.mono (by omega))⟩
  obtain ⟨Y, hY⟩ : ∃ Y, Y = w1.setCell ⟨w.heap.size, 3, none⟩ (.slice (some ⟨g, 0, none⟩) m cap) := ⟨_, rfl⟩
  have HY : Hid (Blk Y w.heap.size #[.int .i64 x.id, .int .i64 x.fr, .int .i64 x.tt, .slice (some ⟨g, 0, none⟩) m cap, .int .i64 x.fi, .int .i64 x.wd] 80 ∧ Blk Y (w.heap.size + 1) #[.int .i64 0, .int .i64 0, .int .i64 0, .slice none 0 0, .int .i64 0, .int .i64 0] 80 ∧ Seg Y g 2 0 m (fun i => .int .i64 (x.p i)) ∧ Below w.heap.size w Y) := by
    rw [hY]
    exact ⟨(BX.out.1.old hb1).set 3 _ rfl, (BX.out.2.1.old hb1).setOther (by simp) _, H1.out.2.1.setOther (by have := H1.out.1; show g ≠ w.heap.size; omega) _, H1.out.2.2.setCell (by simp) _⟩
  clear hg hsg hb1 x3 hl
  rw [← hY]
  clear hY y3 fA hlA
  have y0 := HY.out.1.cell (j := 0) (v := .int .i64 x.id) rfl
  have z0 := HY.out.2.1.cell (j := 0) (v := .int .i64 0) rfl
  have y1 := HY.out.1.cell (j := 1) (v := .int .i64 x.fr) rfl
  have z1 := HY.out.2.1.cell (j := 1) (v := .int .i64 0) rfl
  have y2 := HY.out.1.cell (j := 2) (v := .int .i64 x.tt) rfl
  have z2 := HY.out.2.1.cell (j := 2) (v := .int .i64 0) rfl
  have y3 := HY.out.1.cell (j := 3) (v := .slice (some ⟨g, 0, none⟩) m cap) rfl
  have z3 := HY.out.2.1.cell (j := 3) (v := .slice none 0 0) rfl
  have y4 := HY.out.1.cell (j := 4) (v := .int .i64 x.fi) rfl
  have z4 := HY.out.2.1.cell (j := 4) (v := .int .i64 0) rfl
  have y5 := HY.out.1.cell (j := 5) (v := .int .i64 x.wd) rfl
  have z5 := HY.out.2.1.cell (j := 5) (v := .int .i64 0) rfl
  have hlA := HY.out.1.lt
  have hlB := HY.out.2.1.lt
  have fB := HY.out.2.1.frozen
  go_wp2
  refine bodyPost_ret (v := .agg #[.int .i64 x.id, .int .i64 x.fr, .int .i64 x.tt, .slice (some ⟨g, 0, none⟩) m cap, .int .i64 x.fi, .int .i64 x.wd]) (by simp [results, Try.results85, go_sem, z0, z1, z2, z3, z4, z5]) rfl ⟨g, cap, rfl, by have := H1.out.1; omega, ?_, ?_⟩
  · have hg := H1.out.1
    repeat (first | (with_reducible exact HY.out.2.2.1) | (refine Seg.setOther ?_ (by show g ≠ w.heap.size + 1; omega) _))
  · repeat' (first | (with_reducible exact HY.out.2.2.2) | (with_reducible refine Below.setCell ?_ ?_ _) | (simp; done))
end Go.Proofs.Ytinfbbbgfkaioaa
