/- 'append([]int64{}, row...)' and slices.Clone of a row of numbers: contracts. -/
import Derived.Test.YtndfncjoknibaaaDoorPush
import Derived.Test.YtndfncjoknibaaaDoorIa
namespace Go.Proofs.YtndfncjoknibaaaDoor
open Go.RowKit Fl
set_option linter.unusedVariables false
theorem app_law {ops : Array Oper} {rest : List Oper} {o : Oper} {a : Act} {Q : Exit → Act → World → Prop} (hgd : o.guard = none) (s x : Operand)
    (ho : o.op = .call { callee := .builtin .append, args := #[s, x], argTypes := #[22, 22] }) (w : World) (b off n cap : Nat) (f : Nat → Int) (hs : a.eval s = .slice (some ⟨w.heap.size, 0, none⟩) 0 0) (hx : a.eval x = .slice (some ⟨b, off, none⟩) n cap)
    (hn : n ≤ 1000000000) (h0 : 0 < n) (hc : ∀ i, i < n → w.cell? ⟨b, off + i, none⟩ = some (.int .i64 (f i)))
    (h : ∀ g cp w', w.heap.size ≤ g → Seg w' g 2 0 n (fun i => .int .i64 (f i)) → Below w.heap.size w w' → wpList Tryd.prog ops Q rest (a.put o.dst (.slice (some ⟨g, 0, none⟩) n cp)) w') : wpList Tryd.prog ops Q (o :: rest) a (w.alloc (.cells #[] 2)) := by
  obtain ⟨i, h1, h2, h3, h4⟩ := info_parts info2
  refine wpList_append_own _ hgd s x 22 ho w.heap.size 2 i (.int .i64 0) 1 8 Tryd.underlying22 h1 h2 h3 h4 rfl (by decide) _ 0 [] hs (owns_empty w 2 1) ⟨b, off, none⟩ n cap ((List.range n).map fun i => .int .i64 (f i)) hx (by simp) ?_ ?_ ?_ ?_ ?_ fun v' w' a1 a2 a3 => ?_
  · intro j y hj
    have hjn : j < n := by
      have := (List.getElem?_eq_some_iff.1 hj).1
      simpa using this
    rw [List.getElem?_map, List.getElem?_range hjn] at hj
    simp at hj
    subst hj
    have e0 : (⟨b, off, none⟩ : Addr).add j = ⟨b, off + j, none⟩ := by
      unfold Addr.add
      split
      · rename_i h; subst h; rfl
      · rfl
    rw [e0]
    exact alloc_keeps (hc j hjn)
  · intro y hy
    obtain ⟨k, _, rfl⟩ := List.mem_map.1 hy
    rfl
  · unfold maxLen; omega
  · omega
  · simp
  · have hnn : v' ≠ .slice none 0 0 := fun e => by have := (a3.1 e).2; omega
    rw [Nat.zero_add] at a1
    obtain ⟨g, cp, rfl, hg, hsg⟩ := owned_seg a1 hnn
    refine h g cp w' hg ?_ ?_
    · rw [Nat.mul_one] at hsg
      refine hsg.congr fun i hi => ?_
      simp [List.getD_eq_getElem?_getD, hi]
    · refine Below.grown (row := some w.heap.size) ((Below.refl _ _).alloc (Nat.le_refl _) _) a2 (by simp) fun k hk => ?_
      simp at hk
      omega
set_option maxHeartbeats 800000 in
set_option maxRecDepth 10000 in
theorem clone_any {b off n cap : Nat} {f : Nat → Int} {w : World} (hn : n ≤ 1000000000) (h0 : 0 < n) (hc : ∀ i, i < n → w.cell? ⟨b, off + i, none⟩ = some (.int .i64 (f i))) :
    Calls Tryd.prog 54 #[.slice (some ⟨b, off, none⟩) n cap] w fun e w' => ∃ g cp, e = .returned (.slice (some ⟨g, 0, none⟩) n cp) ∧ w.heap.size ≤ g ∧ Seg w' g 2 0 n (fun i => .int .i64 (f i)) ∧ Below w.heap.size w w' := by
  have HC : Hid (∀ i, i < n → w.cell? ⟨b, off + i, none⟩ = some (.int .i64 (f i))) := hc
  clear hc
  have q22 : ∀ (w : World), (binOp .eql 22 (.slice (some ⟨b, off, none⟩) n cap) (.slice none 0 0)).run Tryd.prog w = .ok (.bool false) w := fun w => run_eql_nil_slice w 22 2 (some ⟨b, off, none⟩) n cap 0 0 Tryd.underlying22
  go_enter Tryd.func54, Tryd.ntmps54
  go_wp2_with (first | (at_builtin; refine app_law rfl (.tmp 5) (.tmp 6) rfl w b off n cap f rfl rfl hn h0 HC.out ?_; intro g cp w1 hg sg bl))
  have HS : Hid (w.heap.size ≤ g ∧ Seg w1 g 2 0 n (fun i => .int .i64 (f i)) ∧ Below w.heap.size w w1) := ⟨hg, sg, bl⟩
  clear hg sg bl
  go_wp2
  go_ret
  exact ⟨g, cp, rfl, HS.out⟩
/-- A float's class says whether it can be a shift. -/
def shO (o : Option Nat) : Bool := match o with | none => false | some v => shB v
theorem shB_cl {y : Nat} {o : Option Nat} (h : Fc y o) : shB y = shO o := by
  obtain ⟨lx, rfl⟩ := h
  by_cases n : Num y
  · rw [cl_num n]; rfl
  · rw [cl_nan n]
    unfold shB
    rw [order_nan' _ lx n]
    rfl
def meltC (kd : Int) (f : Nat → Int) (nm : Int) (x y : Nat) : Option Nat := opC .add (cl x) (opC .sub (cl y) (ixC kd f nm x))
def meltCode (c : Int) (o : Option Nat) : Int := if c = 0 then (if shO o then 0 else 3) else c
/-- A row that is owned: none, or from lo on and below hi. -/
def OwnK (lo hi : Nat) (w : World) (v : Value) (n : Nat) (f : Nat → Int) : Prop :=
  (v = .slice none 0 0 ∧ n = 0) ∨ ∃ g cap, v = .slice (some ⟨g, 0, none⟩) n cap ∧ lo ≤ g ∧ g < hi ∧ Seg w g 2 0 n (fun i => .int .i64 (f i))
theorem OwnK.rd {lo hi : Nat} {w : World} {v : Value} {n : Nat} {f : Nat → Int} (h : OwnK lo hi w v n f) : RdRow w v n f := by
  rcases h with ⟨rfl, rfl⟩ | ⟨g, cap, rfl, _, _, hs⟩
  · exact RdRow.nil w f
  · exact hs.rd
theorem OwnK.keep {lo hi : Nat} {w w' : World} {v : Value} {n : Nat} {f : Nat → Int} (h : OwnK lo hi w v n f) (hk : Keep lo hi w w') : OwnK lo hi w' v n f := by
  rcases h with h | ⟨g, cap, rfl, h1, h2, hs⟩
  · exact Or.inl h
  · exact Or.inr ⟨g, cap, rfl, h1, h2, hs.of_block (hk g h1 h2)⟩
/-- What a melt answers: a code, and a glass or nothing. -/
structure Melt (lo : Nat) (w' : World) (e : Ending) (code : Int) (s : ByteArray) (kd lw hi : Int) (n : Nat) (f : Nat → Int) (o : Option Nat) : Prop where
  ex : ∃ kv y, e = .returned (.agg #[.int .i64 code, .string (if code = 0 then s else ⟨#[]⟩), .int .i64 (if code = 0 then kd else 0), .int .i64 (if code = 0 then lw else 0), .int .i64 (if code = 0 then hi else 0), kv, .float .f64 y]) ∧
    OwnK lo w'.heap.size w' kv (if code = 0 then n else 0) f ∧ Fc y (if code = 0 then o else cl 0)
theorem melt_no {lo : Nat} {w' : World} {code : Int} (h : ¬ code = 0) (s : ByteArray) (kd lw hi : Int) (n : Nat) (f : Nat → Int) (o : Option Nat) :
    Melt lo w' (.returned (.agg #[.int .i64 code, .string ⟨#[]⟩, .int .i64 0, .int .i64 0, .int .i64 0, .slice none 0 0, .float .f64 0])) code s kd lw hi n f o := by
  refine ⟨.slice none 0 0, 0, ?_, ?_, ?_⟩
  · rw [if_neg h, if_neg h, if_neg h, if_neg h]
  · rw [if_neg h]; exact Or.inl ⟨rfl, rfl⟩
  · rw [if_neg h]; exact fc_own (by omega)
theorem melt_yes {lo : Nat} {w' : World} {s : ByteArray} {kd lw hi : Int} {n : Nat} {f : Nat → Int} {o : Option Nat} {g cp y : Nat} (hg : lo ≤ g) (hs : Seg w' g 2 0 n (fun i => .int .i64 (f i))) (hy : Fc y o) :
    Melt lo w' (.returned (.agg #[.int .i64 0, .string s, .int .i64 kd, .int .i64 lw, .int .i64 hi, .slice (some ⟨g, 0, none⟩) n cp, .float .f64 y])) 0 s kd lw hi n f o :=
  ⟨.slice (some ⟨g, 0, none⟩) n cp, y, rfl, Or.inr ⟨g, cp, rfl, hg, hs.lt, hs⟩, hy⟩
end Go.Proofs.YtndfncjoknibaaaDoor
