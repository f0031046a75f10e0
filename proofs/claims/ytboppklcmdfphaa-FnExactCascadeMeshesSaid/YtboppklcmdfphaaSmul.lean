/- The specification's product of right matrices: contract. -/
import Derived.Test.YtboppklcmdfphaaImulok
namespace Go.Proofs.Ytboppklcmdfphaa
open Go.RowKit
/-- What append has built, read off its block. -/
theorem owned_seg {w : World} {base n : Nat} {t : TypeId} {v : Value} {f : Nat → Value} (h : w.ownsRow base t 1 v n ((List.range n).map f)) (hn : 0 < n) :
    ∃ g cap, v = .slice (some ⟨g, 0, none⟩) n cap ∧ base ≤ g ∧ Seg w g t 0 n f := by
  obtain ⟨_, h | ⟨g, cap, cur, hv, hg, hh, h1, h2, h3, h4⟩⟩ := h
  · omega
  · refine ⟨g, cap, hv, hg, cur, hh, fun i hi => ?_⟩
    rw [Nat.zero_add]
    have : (cur.toList.take (n * 1))[i]? = ((List.range n).map f)[i]? := by rw [h4]
    rw [Nat.mul_one, List.getElem?_take_of_lt hi] at this
    rw [← Array.getElem?_toList, this]
    simp [hi]
theorem range_push {α : Type} (f : Nat → α) (k : Nat) : (List.range k).map f ++ [f k] = (List.range (k + 1)).map f := by rw [List.range_succ]; simp
/-- A block that an append to a row of another type leaves as it was. -/
theorem Seg.grown {w w' : World} {b : Nat} {t : TypeId} {off n : Nat} {f : Nat → Value} {row : Option Nat} (h : Seg w b t off n f) (hg : w.grownBy w' row) (hr : ∀ g, row = some g → g ≠ b) : Seg w' b t off n f :=
  h.of_block (hg.block b h.lt fun e => hr b e.symm rfl)
theorem owns_later {w w' : World} {base n : Nat} {t : TypeId} {v : Value} {xs : List Value} (h : w.ownsRow base t 1 v n xs) (hb : Below w.heap.size w w') : w'.ownsRow base t 1 v n xs := by
  obtain ⟨h0, h | ⟨g, cap, cur, hv, hg, hh, r⟩⟩ := h
  · exact ⟨h0, Or.inl h⟩
  · exact ⟨h0, Or.inr ⟨g, cap, cur, hv, hg, (hb.block g (Array.getElem?_eq_some_iff.1 hh).1).trans hh, r⟩⟩
/-- The block that is appended to is of the row's type. -/
theorem owns_ne {w : World} {base n : Nat} {t t' : TypeId} {v : Value} {xs : List Value} (h : w.ownsRow base t 1 v n xs) {b off m : Nat} {f : Nat → Value} (hs : Seg w b t' off m f) (ht : t ≠ t') : ∀ g, v.ownBlock = some g → g ≠ b := by
  intro g hg e
  subst e
  obtain ⟨c, hb, _⟩ := hs
  obtain ⟨_, ⟨rfl, _⟩ | ⟨g', cap, cur, rfl, _, hh, _⟩⟩ := h
  · simp [Value.ownBlock] at hg
  · simp [Value.ownBlock] at hg
    subst hg
    rw [hh] at hb
    simp at hb
    exact ht hb.2
theorem owns_empty (w : World) (t : TypeId) : (w.alloc (.cells #[] t)).ownsRow w.heap.size t 1 (.slice (some ⟨w.heap.size, 0, none⟩) 0 0) 0 [] :=
  ⟨rfl, Or.inr ⟨w.heap.size, 0, #[], rfl, Nat.le_refl _, heap_alloc_new _ _, Nat.le_refl _, Nat.zero_le _, rfl, rfl⟩⟩
/-- Behind an append of one value: what was there below the row's own ground is as it was. -/
theorem push_below {w w1 W : World} {base n : Nat} {t : TypeId} {v : Value} {xs : List Value} {o : Obj} (h : w.ownsRow base t 1 v n xs) (hg : (w.alloc o).grownBy w1 v.ownBlock) (hb : Below base W w) (hB : base ≤ w.heap.size) : Below base W w1 :=
  (hb.alloc hB o).grown hg (by simp; omega) fun k hk => (h.lt k hk).1
/-- 'append(row, x)', one value of one cell, to a row that the call itself has built. -/
theorem push_law {ops : Array Oper} {rest : List Oper} {o : Oper} {a : Act} {Q : Exit → Act → World → Prop} (hgd : o.guard = none) (s x : Operand) (t : TypeId)
    (ho : o.op = .call { callee := .builtin .append, args := #[s, x], argTypes := #[t, t] }) (e : TypeId) (z : Value) (bytes : Nat) (ht : Try.prog.underlying t = some (.slice e))
    (hinfo : (Try.prog.info? e).map (fun i => (i.zero, i.size, i.bytes)) = some (some z, 1, bytes)) (hz1 : z.cells.size = 1) (hby : bytes ≤ 24) (w : World) (u : Value) (hu : u.oneCell' = true)
    (base : Nat) (v : Value) (n : Nat) (xs : List Value) (hs : a.eval s = v) (hown : w.ownsRow base e 1 v n xs) (c : Nat) (hx : a.eval x = .slice (some ⟨w.heap.size, 0, none⟩) 1 c) (hn : n ≤ 1000000) (hbase : base ≤ w.heap.size)
    (h : ∀ v' w', w'.ownsRow base e 1 v' (n + 1) (xs ++ [u]) → (w.alloc (.cells #[u] e)).grownBy w' v.ownBlock → wpList Try.prog ops Q rest (a.put o.dst v') w') : wpList Try.prog ops Q (o :: rest) a (w.alloc (.cells #[u] e)) := by
  obtain ⟨i, h1, h2, h3, h4⟩ := info_parts hinfo
  refine wpList_append_own _ hgd s x t ho base e i z 1 bytes ht h1 h2 h3 h4 hz1 (by decide) v n xs hs (hown.alloc _) ⟨w.heap.size, 0, none⟩ 1 c [u] hx rfl ?_ ?_ ?_ ?_ ?_ fun v' w' a1 a2 _ => h v' w' a1 a2
  · intro j y hj
    match j, hj with
    | 0, hj => simp at hj; subst hj; simp [Addr.add]
  · intro y hy
    simp at hy
    subst hy
    exact hu
  · unfold maxLen; omega
  · have : (n + 1) * bytes ≤ (n + 1) * 24 := Nat.mul_le_mul_left _ hby
    omega
  · simp; omega
structure SmIn (w0 w : World) (ma mb : Lie) (n i : Nat) (La Lb : Nat → Nat) (A B : Rm.Mx) (v : Value) (vs : Nat → Value) : Prop where
  a : Mat 0 w0.heap.size w ma n La A
  b : Mat 0 w0.heap.size w mb n Lb B
  box : Box w w0.heap.size 25
  own : w.ownsRow (w0.heap.size + 1) 32 1 v i ((List.range i).map vs)
  rows : ∀ r, r < i → ∃ g cap, vs r = .slice (some ⟨g, 0, none⟩) n cap ∧ w0.heap.size ≤ g ∧ Seg w g 2 0 n (fun c => .int .i64 (Rm.dot A B r c n))
  below : Below w0.heap.size w0 w
theorem sm_step {w0 w wx w1 : World} {ma mb : Lie} {n i : Nat} {La Lb : Nat → Nat} {A B : Rm.Mx} {v v1 : Value} {vs : Nat → Value} {g cp : Nat} (h : SmIn w0 w ma mb n i La Lb A B v vs) (hb : Below w.heap.size w wx)
    (hO : wx.ownsRow (w0.heap.size + 1) 32 1 v i ((List.range i).map vs)) (hg : w.heap.size ≤ g) (hs : Seg wx g 2 0 n (fun c => .int .i64 (Rm.dot A B i c n)))
    (hown : w1.ownsRow (w0.heap.size + 1) 32 1 v1 (i + 1) ((List.range i).map vs ++ [.slice (some ⟨g, 0, none⟩) n cp])) (hgr : (wx.alloc (.cells #[.slice (some ⟨g, 0, none⟩) n cp] 32)).grownBy w1 v.ownBlock) :
    SmIn w0 w1 ma mb n (i + 1) La Lb A B v1 (fun r => if r = i then .slice (some ⟨g, 0, none⟩) n cp else vs r) := by
  have z1 := h.below.size
  have z2 := hb.size
  have z3 := h.box.lt
  have hB : Below (w0.heap.size + 1) w w1 := push_below hO hgr (hb.mono (by omega)) (by omega)
  have old : ∀ (b : Nat) (f : Nat → Value), Seg wx b 2 0 n f → Seg w1 b 2 0 n f := fun b f hf => (hf.alloc _).grown hgr (owns_ne hO hf (by decide))
  refine ⟨h.a.keep fun k _ hk => hB.block k (by omega), h.b.keep fun k _ hk => hB.block k (by omega), h.box.later hB (by omega), ?_, fun r hr => ?_, h.below.trans (hB.mono (by omega))⟩
  · rw [← range_push]
    have e : (List.range i).map (fun r => if r = i then Value.slice (some ⟨g, 0, none⟩) n cp else vs r) = (List.range i).map vs := List.map_congr_left fun r hr => by
      have := List.mem_range.1 hr
      rw [if_neg (by omega)]
    rw [e]
    simpa using hown
  · by_cases e : r = i
    · subst e
      exact ⟨g, cp, by simp, by omega, old g _ hs⟩
    · obtain ⟨g', cp', e1, e2, e3⟩ := h.rows r (by omega)
      exact ⟨g', cp', by simp [e, e1], e2, old g' _ (e3.of_block (hb.block _ e3.lt))⟩
theorem sm_end {w0 w : World} {ma mb : Lie} {n : Nat} {La Lb : Nat → Nat} {A B : Rm.Mx} {v : Value} {vs : Nat → Value} {g cp : Nat} (h : SmIn w0 w ma mb n n La Lb A B v vs) (hg : w0.heap.size + 1 ≤ g) (hs : Seg w g 32 0 n vs) (x y : Value) :
    RdMat ((w.setCell ⟨w0.heap.size, 0, none⟩ x).setCell ⟨w0.heap.size, 1, none⟩ y) (.slice (some ⟨g, 0, none⟩) n cp) n (fun _ => n) (fun i j => Rm.dot A B i j n) := by
  have key : ∀ k, k ≠ w0.heap.size → ((w.setCell ⟨w0.heap.size, 0, none⟩ x).setCell ⟨w0.heap.size, 1, none⟩ y).heap[k]? = w.heap[k]? := fun k hk => by
    rw [Below.heap_setCell _ _ _ _ hk, Below.heap_setCell _ _ _ _ hk]
  refine Or.inr ⟨g, 0, cp, vs, rfl, fun i hi => ⟨(hs.of_block (key g (by omega))).cell hi, ?_⟩⟩
  obtain ⟨g', cp', e1, e2, e3⟩ := h.rows i hi
  rw [e1]
  refine (e3.of_block (key g' ?_)).rd
  intro e
  obtain ⟨c, hc, _⟩ := e3
  have hb := h.box
  unfold Box at hb
  rw [e, hb] at hc
  simp at hc
set_option maxHeartbeats 1600000 in
theorem sMul_ok {ma mb : Lie} {n : Nat} {La Lb : Nat → Nat} {A B : Rm.Mx} {w : World} (hA : Mat 0 w.heap.size w ma n La A) (hB : Mat 0 w.heap.size w mb n Lb B) (hn : n ≤ 24) (h0 : 0 < n)
    (hLa : ∀ k, k < n → La k = n) (hLb : ∀ k, k < n → Lb k = n) (hc : faultOf n La = 0) (hd : faultOf n Lb = 0) :
    Calls Try.prog 90 #[.slice (some ⟨ma.b, 0, none⟩) n ma.cap, .slice (some ⟨mb.b, 0, none⟩) n mb.cap] w fun e w' => ∃ v : Value, e = .returned (.agg #[.int .i64 0, v]) ∧
      RdMat w' v n (fun _ => n) (fun i j => Rm.dot A B i j n) ∧ Below w.heap.size w w' := by
  have TA : ∀ o, Hid (Tops (w.alloc o) ma.b 0 n La) := fun o => hA.tops.alloc o
  have TB : ∀ o, Hid (Tops (w.alloc o) mb.b 0 n Lb) := fun o => hB.tops.alloc o
  have LA : Hid (∀ k, k < n → La k = n) := hLa
  have LB : Hid (∀ k, k < n → Lb k = n) := hLb
  have MA : Hid (Mat 0 w.heap.size w ma n La A) := hA
  have MB : Hid (Mat 0 w.heap.size w mb n Lb B) := hB
  have HC : Hid (faultOf n La = 0 ∧ faultOf n Lb = 0) := ⟨hc, hd⟩
  clear hA hB hLa hLb hc hd
  go_enter Try.func90, Try.ntmps90
  go_wp2_with fail
  refine (sFault_any _ _ _ _ La _ (by omega) (fun k hk => by rw [LA.out k hk]; omega) (TA _).out).mono ?_
  rintro e w1 ⟨rfl, rfl⟩
  rw [HC.out.1]
  go_wp2_with fail
  refine (sFault_any _ _ _ _ Lb _ (by omega) (fun k hk => by rw [LB.out k hk]; omega) (TB _).out).mono ?_
  rintro e w1 ⟨rfl, rfl⟩
  rw [HC.out.2]
  go_wp2_with fail
  have HI : Hid (SmIn w ((w.alloc (.cells #[.int .i64 0, .slice none 0 0] 25)).alloc (.cells #[] 32)) ma mb n 0 La Lb A B (.slice (some ⟨w.heap.size + 1, 0, none⟩) 0 0) (fun _ => .nilIface)) := by
    have key : ∀ k, k < w.heap.size → ((w.alloc (.cells #[.int .i64 0, .slice none 0 0] 25)).alloc (.cells #[] 32)).heap[k]? = w.heap[k]? := fun k hk => by
      rw [Below.heap_alloc _ _ _ (by simp; omega), Below.heap_alloc _ _ _ hk]
    refine ⟨MA.out.keep fun k _ hk => key k hk, MB.out.keep fun k _ hk => key k hk, heap_alloc2_old _ _ _, ?_, fun r hr => absurd hr (Nat.not_lt_zero _), ((Below.refl _ _).alloc (Nat.le_refl _) _).alloc (by simp) _⟩
    have := owns_empty (w.alloc (.cells #[.int .i64 0, .slice none 0 0] 25)) 32
    simpa using this
  clear TA TB MA MB HC
  go_loopw [9, 8] (fun c v wr => ∃ (i : Nat) (vs : Nat → Value), i ≤ n ∧ c = .int .i64 i ∧ SmIn w wr ma mb n i La Lb A B v vs) (fun c _ _ => n - (intOf c).toNat)
  case atStart => exact ⟨0, _, Nat.zero_le _, rfl, HI.out⟩
  case round =>
    obtain ⟨i, vs, hi, rfl, hr⟩ := hrel
    clear HI
    have HO : Hid (SmIn w wr ma mb n i La Lb A B u8 vs) := hr
    clear hr
    obtain ⟨wo, hwo⟩ : ∃ wo, wo = wr := ⟨_, rfl⟩
    subst hwo
    by_cases hin : i < n
    · go_wp2_with fail
      go_loopw [11, 10] (fun c v wx => ∃ j : Nat, j ≤ n ∧ c = .int .i64 j ∧ wx.ownsRow wo.heap.size 2 1 v j ((List.range j).map fun c => .int .i64 (Rm.dot A B i c n)) ∧ Below wo.heap.size wo wx) (fun c _ _ => n - (intOf c).toNat)
      case atStart => exact ⟨0, Nat.zero_le _, rfl, owns_empty wo 2, (Below.refl _ _).alloc (Nat.le_refl _) _⟩
      case round =>
        obtain ⟨j, hj, rfl, hown, hbel⟩ := hrel
        have HR : Hid (wr.ownsRow wo.heap.size 2 1 u10 j ((List.range j).map fun c => .int .i64 (Rm.dot A B i c n)) ∧ Below wo.heap.size wo wr) := ⟨hown, hbel⟩
        clear hown hbel
        obtain ⟨wx, hwx⟩ : ∃ wx, wx = wr := ⟨_, rfl⟩
        subst hwx
        by_cases hjn : j < n
        · have ga : wx.cell? ⟨ma.b, i, none⟩ = some (.slice (some ⟨ma.bs i, ma.os i, none⟩) n (ma.cs i)) := by
            rw [HR.out.2.cell (by show ma.b < _; exact Nat.lt_of_lt_of_le HO.out.a.bhi HO.out.below.size)]
            have := HO.out.a.cellRow hin
            rw [LA.out i hin] at this
            exact this
          have GA : Hid (∀ k, k < n → wx.cell? ⟨ma.bs i, ma.os i + k, none⟩ = some (.int .i64 (A i k))) := fun k hk => by
            rw [HR.out.2.cell (by show ma.bs i < _; exact Nat.lt_of_lt_of_le (HO.out.a.rhi i hin) HO.out.below.size)]
            exact HO.out.a.cellAt hin (by rw [LA.out i hin]; exact hk)
          have GB : Hid (∀ k, k < n → wx.cell? ⟨mb.b, k, none⟩ = some (.slice (some ⟨mb.bs k, mb.os k, none⟩) n (mb.cs k))) := fun k hk => by
            rw [HR.out.2.cell (by show mb.b < _; exact Nat.lt_of_lt_of_le HO.out.b.bhi HO.out.below.size)]
            have := HO.out.b.cellRow hk
            rw [LB.out k hk] at this
            exact this
          have GC : Hid (∀ k, k < n → wx.cell? ⟨mb.bs k, mb.os k + j, none⟩ = some (.int .i64 (B k j))) := fun k hk => by
            rw [HR.out.2.cell (by show mb.bs k < _; exact Nat.lt_of_lt_of_le (HO.out.b.rhi k hk) HO.out.below.size)]
            exact HO.out.b.cellAt hk (by rw [LB.out k hk]; exact hjn)
          have GA0 : Hid (wx.cell? ⟨ma.b, i, none⟩ = some (.slice (some ⟨ma.bs i, ma.os i, none⟩) n (ma.cs i))) := ga
          clear ga
          go_wp2_with fail
          go_loopw [13, 12] (fun c s wy => ∃ k q : Nat, k ≤ n ∧ c = .int .i64 k ∧ s = .int .i64 (Rm.dot A B i j k) ∧ wy = wx.drewN q) (fun c _ _ => n - (intOf c).toNat)
          case atStart => exact ⟨0, 0, Nat.zero_le _, rfl, rfl, rfl⟩
          case round =>
            obtain ⟨k, q, hk, rfl, rfl, hq⟩ := hrel
            by_cases hkn : k < n
            · have g0 : wr.cell? ⟨ma.b, i, none⟩ = some (.slice (some ⟨ma.bs i, ma.os i, none⟩) n (ma.cs i)) := by rw [hq]; exact GA0.out
              have g1 : wr.cell? ⟨ma.bs i, ma.os i + k, none⟩ = some (.int .i64 (A i k)) := by rw [hq]; exact GA.out k hkn
              have g2 : wr.cell? ⟨mb.b, k, none⟩ = some (.slice (some ⟨mb.bs k, mb.os k, none⟩) n (mb.cs k)) := by rw [hq]; exact GB.out k hkn
              have g3 : wr.cell? ⟨mb.bs k, mb.os k + j, none⟩ = some (.int .i64 (B k j)) := by rw [hq]; exact GC.out k hkn
              have HQ : Hid (wr = wx.drewN q) := hq
              clear hq
              go_wp2_with fail
              go_quiet (first | (go_at_call 79; exact quiet_eq (sMul_any _ _ _)) | (go_at_call 80; exact quiet_eq (sAdd_any _ _ _)))
              go_wp2
              exact ⟨⟨k + 1, q + nq, by omega, by simp, rfl, by rw [HQ.out, World.drewN_drewN]⟩, by simp [intOf]; omega⟩
            · obtain rfl : k = n := by omega
              have HW : Hid (wr.ownsRow wo.heap.size 2 1 u10 j ((List.range j).map fun c => .int .i64 (Rm.dot A B i c k)) ∧ Below wo.heap.size wo wr) := by
                rw [hq]
                exact ⟨HR.out.1, below_drewN HR.out.2 q⟩
              clear hq
              have hws := HW.out.2.size
              go_wp2_with (first | (at_builtin; refine push_law rfl (.tmp 67) (.tmp 69) 32 rfl 2 (.int .i64 0) 8 Try.underlying32 info2 rfl (by decide) wr _ rfl wo.heap.size u10 j _ rfl HW.out.1 1 rfl (by omega) hws ?_; intro v1 w1 hown1 hgrow1))
              have HN : Hid (w1.ownsRow wo.heap.size 2 1 v1 (j + 1) ((List.range (j + 1)).map fun c => .int .i64 (Rm.dot A B i c k)) ∧ Below wo.heap.size wo w1) := by
                rw [← range_push]
                exact ⟨hown1, push_below HW.out.1 hgrow1 HW.out.2 hws⟩
              clear hown1 hgrow1
              go_wp2
              exact ⟨⟨j + 1, by omega, by simp, HN.out⟩, by simp [intOf]; omega⟩
        · obtain rfl : j = n := by omega
          have hO : Hid (wx.ownsRow (w.heap.size + 1) 32 1 u8 i ((List.range i).map vs)) := owns_later HO.out.own HR.out.2
          have hws := HR.out.2.size
          have hw0 := HO.out.below.size
          have hbx := HO.out.box.lt
          obtain ⟨g, cp, hv, hgb, hseg⟩ := owned_seg HR.out.1 (by omega)
          subst hv
          have HG : Hid (wo.heap.size ≤ g ∧ Seg wx g 2 0 j (fun c => .int .i64 (Rm.dot A B i c j))) := ⟨hgb, hseg⟩
          clear hgb hseg
          go_wp2_with (first | (at_builtin; refine push_law rfl (.tmp 71) (.tmp 73) 22 rfl 32 (.slice none 0 0) 24 Try.underlying22 info38 rfl (by decide) wx _ rfl (w.heap.size + 1) u8 i _ rfl hO.out 1 rfl (by omega) (by omega) ?_; intro v1 w1 hown1 hgrow1))
          have HN : Hid (SmIn w w1 ma mb j (i + 1) La Lb A B v1 (fun r => if r = i then .slice (some ⟨g, 0, none⟩) j cp else vs r)) := sm_step HO.out HR.out.2 hO.out HG.out.1 HG.out.2 hown1 hgrow1
          clear hown1 hgrow1
          go_wp2
          exact ⟨⟨i + 1, _, by omega, by simp, HN.out⟩, by simp [intOf]; omega⟩
    · obtain rfl : i = n := by omega
      have c0 := HO.out.box.c0
      have c1 := HO.out.box.c1
      have f0 := HO.out.box.fz 0
      have f1 := HO.out.box.fz 1
      obtain ⟨g, cp, hv, hgb, hseg⟩ := owned_seg HO.out.own h0
      subst hv
      have HG : Hid (w.heap.size + 1 ≤ g ∧ Seg wo g 32 0 i vs) := ⟨hgb, hseg⟩
      clear hgb hseg
      go_wp2
      refine bodyPost_ret (v := .agg #[.int .i64 0, .slice (some ⟨g, 0, none⟩) i cp]) (by simp [results, Try.results90, go_sem, c0, c1]) rfl ⟨_, rfl, ?_, ?_⟩
      · exact sm_end HO.out HG.out.1 HG.out.2 _ _
      · exact (HO.out.below.setCell (Nat.le_refl _) _).setCell (Nat.le_refl _) _
end Go.Proofs.Ytboppklcmdfphaa
