/- The numbers of the nets, by the specification: contracts. -/
import Derived.Test.YtclnmikneomccaaJo
import Derived.Test.YtclnmikneomccaaNn
namespace Go.Proofs.Ytclnmikneomccaa
open Go.RowKit Go.Maps
set_option linter.unusedVariables false
set_option linter.unusedSimpArgs false
theorem info3 : (Try.prog.info? 3).map (fun i => (i.zero, i.size, i.bytes)) = some (some (.int .i64 0), 1, 8) := by kernel_rfl
def nints (xs : List Nat) : List Value := xs.map fun (x : Nat) => Value.int .i64 (x : Int)
theorem nints_len (xs : List Nat) : (nints xs).length = xs.length := by simp [nints]
theorem nints_snoc (xs : List Nat) (x : Nat) : nints (xs ++ [x]) = nints xs ++ [.int .i64 (x : Int)] := by simp [nints]
/-- A list of places of its own. -/
def Tdl (W : World) (lo : Nat) (v : Value) (xs : List Nat) : Prop := W.ownsRow lo 3 1 v xs.length (nints xs)
theorem Tdl.later {w w' : World} {lo : Nat} {v : Value} {xs : List Nat} (h : Tdl w lo v xs) (hb : Below w.heap.size w w') : Tdl w' lo v xs := ownsV_later h hb
theorem Tdl.keepOn {w w' : World} {lo : Nat} {v : Value} {xs : List Nat} (h : Tdl w lo v xs) (hk : ∀ k, v.ownBlock = some k → w'.heap[k]? = w.heap[k]?) : Tdl w' lo v xs := by
  obtain ⟨h0, h1 | ⟨g, cap, cur, hv, hg, hh, r⟩⟩ := h
  · exact ⟨h0, Or.inl h1⟩
  · exact ⟨h0, Or.inr ⟨g, cap, cur, hv, hg, (hk g (by rw [hv]; rfl)).trans hh, r⟩⟩
theorem Tdl.form {w : World} {lo : Nat} {v : Value} {xs : List Nat} (h : Tdl w lo v xs) : ∃ ao cap, v = .slice ao xs.length cap := by
  obtain ⟨_, h1 | ⟨g, cap, cur, hv, hg, hh, h1, h2, h3, h4⟩⟩ := h
  · rw [h1.2]; exact ⟨_, _, h1.1⟩
  · exact ⟨_, _, hv⟩
theorem Tdl.one (w : World) (x : Nat) (lo : Nat) (hl : lo ≤ w.heap.size) : Tdl (w.alloc (.cells #[.int .i64 (x : Int)] 3)) lo (.slice (some ⟨w.heap.size, 0, none⟩) 1 1) [x] := by
  obtain ⟨h0, h1 | ⟨g, cap, cur, hv, hg, r⟩⟩ := owns_one w 3 (.int .i64 (x : Int))
  · have := h1.1; simp at this
  · exact ⟨h0, Or.inr ⟨g, cap, cur, hv, Nat.le_trans hl hg, r⟩⟩
theorem Tdl.last {w : World} {lo x : Nat} {v : Value} {xs : List Nat} (h : Tdl w lo v (xs ++ [x])) : ∃ g cap, v = .slice (some ⟨g, 0, none⟩) (xs.length + 1) cap ∧ xs.length + 1 ≤ cap ∧ w.cell? ⟨g, xs.length, none⟩ = some (.int .i64 (x : Int)) ∧ Tdl w lo (.slice (some ⟨g, 0, none⟩) xs.length cap) xs := by
  obtain ⟨h0, h1 | ⟨g, cap, cur, hv, hg, hh, h1, h2, h3, h4⟩⟩ := h
  · have := h1.2; simp at this
  · have hl : (xs ++ [x]).length = xs.length + 1 := by simp
    rw [hl] at hv h1 h4
    refine ⟨g, cap, hv, h1, ?_, by rw [nints_len]; omega, Or.inr ⟨g, cap, cur, rfl, hg, hh, by omega, h2, h3, ?_⟩⟩
    · have e : (cur.toList.take ((xs.length + 1) * 1))[xs.length]? = (nints (xs ++ [x]))[xs.length]? := by rw [h4]
      rw [List.getElem?_take_of_lt (by omega), nints_snoc, List.getElem?_append_right (by rw [nints_len]; omega), nints_len] at e
      simp at e
      simp [World.cell?, hh, e]
    · have : cur.toList.take (xs.length * 1) = (cur.toList.take ((xs.length + 1) * 1)).take (xs.length * 1) := by rw [List.take_take]; congr 1; omega
      rw [this, h4, nints_snoc]
      rw [List.take_append_of_le_length (by rw [nints_len]; omega)]
      rw [List.take_of_length_le (by rw [nints_len]; omega)]
theorem pushT {ops : Array Oper} {rest : List Oper} {o : Oper} {a : Act} {Q : Exit → Act → World → Prop} (hgd : o.guard = none) (s x : Operand)
    (ho : o.op = .call { callee := .builtin .append, args := #[s, x], argTypes := #[99, 99] }) (w : World) (u : Nat) (lo : Nat) (v : Value) (xs : List Nat) (hs : a.eval s = v) (hown : Tdl w lo v xs) (c : Nat) (hx : a.eval x = .slice (some ⟨w.heap.size, 0, none⟩) 1 c) (hn : xs.length ≤ 1000000) (hbase : lo ≤ w.heap.size)
    (h : ∀ v' w', Tdl w' lo v' (xs ++ [u]) → Below lo w w' → wpList Try.prog ops Q rest (a.put o.dst v') w') :
    wpList Try.prog ops Q (o :: rest) a (w.alloc (.cells #[.int .i64 (u : Int)] 3)) := by
  refine pushV hgd s x 99 ho 3 _ 1 8 Try.underlying99 info3 rfl (by decide) (by decide) w [.int .i64 (u : Int)] rfl (by intro y hy; simp at hy; subst hy; rfl) lo v xs.length (nints xs) hs hown c hx (by omega) hbase fun v' w' r1 r2 _ => h v' w' ?_ ?_
  · show w'.ownsRow lo 3 1 v' (xs ++ [u]).length (nints (xs ++ [u]))
    rw [nints_snoc, List.length_append]
    exact r1
  · exact ((Below.refl lo w).alloc hbase _).grown r2 (by simp; omega) fun b hb => (hown.lt b hb).1
theorem Ol.seg {w : World} {lo d : Nat} {v : Value} {f : Nat → Int} (h : Ol w lo v (fints f d)) (hd : 0 < d) : ∃ g cap, v = .slice (some ⟨g, 0, none⟩) d cap ∧ lo ≤ g ∧ g < w.heap.size ∧ Seg w g 2 0 d (fun j => .int .i64 (f j)) := by
  rcases OwnI.of h (Nat.le_refl _) with ⟨e, _⟩ | ⟨_, ⟨e, _⟩ | ⟨g, cap, e, h1, h2, h3⟩⟩
  · exact absurd rfl e
  · have := fints_len f d
    rw [e] at this
    simp at this
    omega
  · rw [fints_len] at e h3
    exact ⟨g, cap, e, h1, h2, h3.congr fun i hi => by rw [fints_at f hi]⟩
theorem fints_more (f : Nat → Int) (d : Nat) : fints f (d + 1) = fints f d ++ [f d] := by
  unfold fints
  rw [List.range_succ, List.map_append]
  rfl
/-- A number in memory. -/
def rdI (W : World) (g a : Nat) : Int := match W.cell? ⟨g, a, none⟩ with
  | some (.int _ x) => x
  | _ => 0
def lenV : Value → Nat
  | .slice _ n _ => n
  | _ => 0
theorem cu_rd {W : World} {g n : Nat} {F : Nat → Int} (h : Seg W g 2 0 n (fun i => .int .i64 (F i))) : Nw.cu (rdI W g) n = Nw.cu F n :=
  Nw.cu_same n fun a ha => by
    have := h.cell ha
    rw [Nat.zero_add] at this
    simp [rdI, this]
/-- The numbers' block, while nets are walked. -/
structure Sd (w W : World) (g L0 n : Nat) (F : Nat → Int) : Prop where
  seg : Seg W g 2 0 n (fun i => .int .i64 (F i))
  be : Below w.heap.size w W
  sz : L0 ≤ W.heap.size
  lw : w.heap.size ≤ L0
  gl : w.heap.size ≤ g ∧ g < L0
theorem Sd.later {w W W' : World} {g L0 n : Nat} {F : Nat → Int} (h : Sd w W g L0 n F) (hb : Below L0 W W') : Sd w W' g L0 n F :=
  ⟨h.seg.of_block (hb.block g h.gl.2), h.be.trans (hb.mono h.lw), Nat.le_trans h.sz hb.size, h.lw, h.gl⟩
theorem Sd.set {w W : World} {g L0 n : Nat} {F : Nat → Int} (h : Sd w W g L0 n F) {k : Nat} (hk : k < n) (x : Int) : Sd w (W.setCell ⟨g, k, none⟩ (.int .i64 x)) g L0 n (fun a => if a = k then x else F a) := by
  refine ⟨?_, h.be.setCell h.gl.1 _, by simpa using h.sz, h.lw, h.gl⟩
  have := h.seg.set (i := k) hk (.int .i64 x)
  rw [Nat.zero_add] at this
  exact this.congr fun j hj => by by_cases e : j = k <;> simp [e]
set_option maxRecDepth 20000 in
set_option maxHeartbeats 6400000 in
theorem sNum_any {w : World} {ao : Option Addr} {n cap : Nat} {S : Nat → R.G} (h : R.Rsp w (.slice ao n cap) n S) (hok : ∀ i, i < n → Rok (S i)) (hn : n ≤ 60) :
    Calls Try.prog 55 #[.slice ao n cap] w fun e w' => ∃ v X, e = .returned v ∧ OwnI w.heap.size w'.heap.size w' 0 v (fints X n) ∧ Nw.Nets (fun a b => jn (S a) (S b)) n X ∧ Below w.heap.size w w' := by
  have HOK : Hid (∀ i, i < n → Rok (S i)) := hok
  have HA : ∀ W, Below w.heap.size w W → Hid (R.Rsp W (.slice ao n cap) n S) := fun W hb => h.later hb
  have hnI : (n : Int) ≤ 60 := by omega
  clear h hok
  go_enter Try.func55, Try.ntmps55
  go_wp2_with fail
  obtain ⟨w1, hw1⟩ : ∃ W, W = w.alloc (.cells #[] 2) := ⟨_, rfl⟩
  have H1 : Hid (Ol w1 w.heap.size (.slice (some ⟨w.heap.size, 0, none⟩) 0 0) (fints (fun _ => -1) 0) ∧ Below w.heap.size w w1) := by
    rw [hw1]
    exact ⟨ownsV_empty _ _ _, box_stay (Below.refl _ _) _⟩
  rw [← hw1]
  clear hw1
  go_loopw [3, 4] (fun v i wr => ∃ k : Nat, k ≤ n ∧ i = .int .i64 k ∧ Hid (Ol wr w.heap.size v (fints (fun _ => -1) k) ∧ Below w.heap.size w wr)) (fun _ i _ => n - (intOf i).toNat)
  case atStart => exact ⟨0, Nat.zero_le _, rfl, H1⟩
  case round =>
    obtain ⟨k, hk, rfl, HH⟩ := hrel
    by_cases hkn : k < n
    · have hkI : (k : Int) < n := by omega
      have HL : Hid ((fints (fun _ => (-1 : Int)) k).length = k) := fints_len _ _
      go_wp2_with (first | (at_builtin; refine pushL rfl (.tmp 17) (.tmp 18) rfl wr (-1) w.heap.size u3 (fints (fun _ => -1) k) (by simp [Act.eval]) HH.out.1 1 (by simp [Act.eval]) (by rw [HL.out]; omega) HH.out.2.size ?_; intro ao4 c4 w4 ho4 hg4 hp4; rw [HL.out] at ho4 hp4 ⊢; have H4 : Hid (Ol w4 w.heap.size (.slice ao4 (k + 1) c4) (fints (fun _ => -1) (k + 1)) ∧ Below w.heap.size w w4) := ⟨by rw [fints_more]; exact ho4, HH.out.2.trans (((Below.refl w.heap.size wr).alloc HH.out.2.size _).grown hg4 (by simp; have := HH.out.2.size; omega) fun g hg => (HH.out.1.lt g hg).1)⟩; clear ho4 hg4 hp4))
      go_roundw
      case rel => exact ⟨k + 1, by omega, by simp, H4⟩
      case measure => simp [intOf]; omega
    · obtain rfl : n = k := by omega
      by_cases h0 : n = 0
      · subst h0
        obtain ⟨xo, xc, ev⟩ : ∃ ao cap, u3 = .slice ao 0 cap := by
          obtain ⟨a, c, e, _⟩ := HH.out.1.form
          exact ⟨a, c, e⟩
        subst ev
        have HQ : Hid (OwnI w.heap.size wr.heap.size wr 0 (.slice xo 0 xc) (fints (fun _ => 0) 0) ∧ Below w.heap.size w wr) := ⟨Or.inr ⟨rfl, Or.inl ⟨rfl, _, _, rfl⟩⟩, HH.out.2⟩
        clear HH HA
        go_wp2_with fail
        refine wp_loop_rounds 1 ?_
        rw [rounds_succ]
        go_wp2
        go_ret
        exact ⟨_, fun _ => 0, rfl, HQ.out.1, ⟨Nw.RG.zero _, fun i j hi => absurd hi (Nat.not_lt_zero _)⟩, HQ.out.2⟩
      obtain ⟨g, cp, ev, hg1, hg2, hseg⟩ := HH.out.1.seg (by omega : 0 < n)
      subst ev
      have HS0 : Hid (Sd w wr g wr.heap.size n (fun _ => -1)) := ⟨hseg, HH.out.2, Nat.le_refl _, HH.out.2.size, hg1, hg2⟩
      obtain ⟨L0, hL0⟩ : ∃ L, L = wr.heap.size := ⟨_, rfl⟩
      rw [← hL0] at HS0
      clear hL0 hseg HH hg1 hg2
      obtain ⟨wA, hwA⟩ : ∃ W, W = wr := ⟨_, rfl⟩
      rw [← hwA] at HS0 ⊢
      clear hwA H1
      go_wp2_with fail
      go_loopw [5, 6] (fun s5 s6 wr => ∃ (i : Nat) (N : Int) (F : Nat → Int), i ≤ n ∧ s5 = .int .i64 N ∧ s6 = .int .i64 i ∧ 0 ≤ N ∧ N ≤ i ∧ Hid (Nw.Wk (fun a b => jn (S a) (S b)) n i N F [] ∧ Sd w wr g L0 n F)) (fun _ s6 _ => n - (intOf s6).toNat)
      case atStart => exact ⟨0, 0, _, Nat.zero_le _, rfl, rfl, Int.le_refl _, Int.le_refl _, Nw.Wk.start _ _, HS0⟩
      case round =>
        clear HS0
        obtain ⟨i, N, F, hi, rfl, rfl, hN0, hN1, HW⟩ := hrel
        by_cases hin : i < n
        · have hiI : (i : Int) < n := by omega
          have hic : (i : Int) ≤ 60 := by omega
          obtain ⟨x, hx⟩ : ∃ x, x = F i := ⟨_, rfl⟩
          have ci : wr.cell? ⟨g, i, none⟩ = some (.int .i64 x) := by have := HW.out.2.seg.cell hin; rw [Nat.zero_add] at this; rw [hx]; exact this
          have HX : Hid (x = F i) := hx
          clear hx
          by_cases hxp : 0 ≤ x
          · have HF : Hid (Nw.Wk (fun a b => jn (S a) (S b)) n (i + 1) N F [] ∧ Sd w wr g L0 n F) := ⟨HW.out.1.skip (by rw [← HX.out]; exact hxp), HW.out.2⟩
            go_wp2
            go_roundw
            case rel => exact ⟨i + 1, N, F, by omega, rfl, by simp, hN0, by omega, HF⟩
            case measure => simp [intOf]; omega
          · have hxn : x < 0 := by omega
            have hf := HW.out.2.seg.frozen
            have hfz : ∀ j, wr.frozen? ⟨g, j, none⟩ = false := fun j => hf j
            obtain ⟨wB, hwB⟩ : ∃ W, W = (wr.setCell ⟨g, i, none⟩ (.int .i64 N)).alloc (.cells #[.int .i64 (i : Int)] 3) := ⟨_, rfl⟩
            have HB : Hid (Nw.Wk (fun a b => jn (S a) (S b)) n (i + 1) (N + 1) (fun a => if a = i then N else F a) [i] ∧ Sd w wB g L0 n (fun a => if a = i then N else F a) ∧ Tdl wB L0 (.slice (some ⟨wr.heap.size, 0, none⟩) 1 1) [i] ∧ 2 * Nw.cu (fun a => if a = i then N else F a) n + [i].length ≤ 121) := by
              have h1 := HW.out.2.set hin N
              refine ⟨HW.out.1.new hin (by rw [← HX.out]; exact hxn), ?_, ?_, by have := Nw.cu_le (fun a => if a = i then N else F a) n; simp; omega⟩
              · rw [hwB]; exact h1.later ((Below.refl _ _).alloc h1.sz _)
              · rw [hwB]
                have := Tdl.one (wr.setCell ⟨g, i, none⟩ (.int .i64 N)) i L0 h1.sz
                simpa using this
            have HWB : Hid (wB = (wr.setCell ⟨g, i, none⟩ (.int .i64 N)).alloc (.cells #[.int .i64 (i : Int)] 3)) := hwB
            clear hwB hf
            go_wp2_with fail
            rw [← HWB.out]
            clear HWB HW HX ci hfz
            go_loopw [7] (fun v7 wr => ∃ (F : Nat → Int) (xs : List Nat), Hid (Nw.Wk (fun a b => jn (S a) (S b)) n (i + 1) (N + 1) F xs ∧ Sd w wr g L0 n F ∧ Tdl wr L0 v7 xs ∧ 2 * Nw.cu F n + xs.length ≤ 121)) (fun v7 wr => 2 * Nw.cu (rdI wr g) n + lenV v7)
            case atStart => exact ⟨_, _, HB⟩
            case round =>
              clear HB
              obtain ⟨F, xs, HT⟩ := hrel
              rcases List.eq_nil_or_concat xs with hnil | ⟨ys, kk, hcat⟩
              · subst hnil
                obtain ⟨ta, tc, ev7⟩ : ∃ ao cap, u7 = .slice ao 0 cap := HT.out.2.2.1.form
                subst ev7
                have HE : Hid (Nw.Wk (fun a b => jn (S a) (S b)) n (i + 1) (N + 1) F [] ∧ Sd w wr g L0 n F) := ⟨HT.out.1, HT.out.2.1⟩
                clear HT
                have hNs : N + 1 ≤ 61 := by omega
                go_wp2
                go_roundw
                case rel => exact ⟨i + 1, N + 1, F, by omega, rfl, by simp, by omega, by omega, HE⟩
                case measure => simp [intOf]; omega
              · rw [List.concat_eq_append] at hcat
                subst hcat
                obtain ⟨g7, c7, ev7, hc7, hcell, htd⟩ := HT.out.2.2.1.last
                subst ev7
                obtain ⟨m, hm⟩ : ∃ m, m = ys.length := ⟨_, rfl⟩
                rw [← hm] at hc7 hcell htd ⊢
                have HK : Hid (Nw.Lk (fun a b => jn (S a) (S b)) n (i + 1) (N + 1) F ys kk 0 ∧ Sd w wr g L0 n F ∧ Tdl wr L0 (.slice (some ⟨g7, 0, none⟩) m c7) ys ∧ m = ys.length) := ⟨Nw.Lk.start HT.out.1, HT.out.2.1, htd, hm⟩
                obtain ⟨M0, hM0⟩ : ∃ M, M = 2 * Nw.cu F n + m := ⟨_, rfl⟩
                have hM1 := hM0
                have HM0 : Hid (2 * Nw.cu (rdI wr g) n = 2 * Nw.cu F n ∧ M0 = 2 * Nw.cu F n + m) := ⟨by rw [cu_rd HT.out.2.1.seg], hM0⟩
                have hmI : (m : Int) + 1 ≤ c7 := by omega
                have hkkn : Hid (kk < n) := HK.out.1.kn
                have HMB : Hid (M0 ≤ 120) := by
                  have := HT.out.2.2.2
                  rw [List.length_append, List.length_singleton] at this
                  show M0 ≤ 120
                  omega
                have hmbI : (m : Int) ≤ 120 := by have := HMB.out; omega
                clear htd hm hM0 hM1 HT
                obtain ⟨wC, hwC⟩ : ∃ W, W = wr := ⟨_, rfl⟩
                rw [← hwC] at HK hcell HM0 ⊢
                clear hwC
                go_wp2_with fail
                go_loopw [7, 9] (fun v7 s9 wr => ∃ (j : Nat) (F : Nat → Int) (xs : List Nat), j ≤ n ∧ s9 = .int .i64 j ∧ Hid (Nw.Lk (fun a b => jn (S a) (S b)) n (i + 1) (N + 1) F xs kk j ∧ Sd w wr g L0 n F ∧ Tdl wr L0 v7 xs ∧ 2 * Nw.cu F n + xs.length ≤ M0)) (fun _ s9 _ => n - (intOf s9).toNat)
                case atStart => exact ⟨0, F, ys, Nat.zero_le _, rfl, HK.out.1, HK.out.2.1, HK.out.2.2.1, by rw [HM0.out.2, HK.out.2.2.2]; exact Nat.le_refl _⟩
                case round =>
                  clear HK
                  obtain ⟨j, F, xs, hj, rfl, HT⟩ := hrel
                  by_cases hjn : j < n
                  · have hjI : (j : Int) < n := by omega
                    obtain ⟨x2, hx⟩ : ∃ x, x = F j := ⟨_, rfl⟩
                    have HX : Hid (x2 = F j) := hx
                    have K0 : ∀ xk : Kept wr.heap.size wr, xk.w.cell? ⟨g, j, none⟩ = some (.int .i64 x2) := fun xk => by
                      have := HT.out.2.1.seg.cell hjn
                      rw [Nat.zero_add] at this
                      rw [hx]
                      exact kold xk.h this
                    clear hx hcell
                    by_cases hxp : 0 ≤ x2
                    · have hxd : ¬ x2 < 0 := by omega
                      go_upto_region 19 with fail
                      refine wp_region_kept wr.heap.size (by kernel_rfl) (by kernel_rfl) ?_
                      intro hne
                      repeat (go_big_quiet_step (fail))
                      refine wpQuiet_nil ?_
                      rintro u ⟨xk, hxk⟩
                      have hR1 := xk.h
                      rw [← hxk] at hR1
                      have HF : Hid (Nw.Lk (fun a b => jn (S a) (S b)) n (i + 1) (N + 1) F xs kk (j + 1) ∧ Sd w u g L0 n F ∧ Tdl u L0 u7 xs ∧ 2 * Nw.cu F n + xs.length ≤ M0) := ⟨HT.out.1.pass (fun a b => jn_symm) hjn (Or.inl (by rw [← HX.out]; exact hxp)), HT.out.2.1.later (hR1.mono HT.out.2.1.sz), HT.out.2.2.1.later hR1, HT.out.2.2.2⟩
                      clear hxk xk hne K0 hR1 HT
                      go_wp2
                      go_roundw
                      case rel => exact ⟨j + 1, F, xs, by omega, by simp, HF⟩
                      case measure => simp [intOf]; omega
                    · have hxn : x2 < 0 := by omega
                      obtain ⟨b, off, hao, hck⟩ := (HA wr HT.out.2.1.be).out.at hkkn.out
                      subst hao
                      have hcj := RdV.cells (w := w) (HA wr HT.out.2.1.be).out hjn
                      obtain ⟨y, hy⟩ : ∃ y, y = S kk := ⟨_, rfl⟩
                      obtain ⟨z, hz⟩ : ∃ y, y = S j := ⟨_, rfl⟩
                      rw [← hy] at hck
                      rw [← hz] at hcj
                      have P0 : ∀ xk : Kept wr.heap.size wr, xk.w.cell? ⟨b, off + kk * 5, none⟩ = some (.int .i64 y.ly) := fun xk => kold xk.h (hck 0 (by omega))
                      have Q0 : ∀ xk : Kept wr.heap.size wr, xk.w.cell? ⟨b, off + j * 5, none⟩ = some (.int .i64 z.ly) := fun xk => kold xk.h (hcj 0 (by omega))
                      have P1 : ∀ xk : Kept wr.heap.size wr, xk.w.cell? ⟨b, off + kk * 5 + 1, none⟩ = some (.int .i64 y.xa) := fun xk => kold xk.h (hck 1 (by omega))
                      have Q1 : ∀ xk : Kept wr.heap.size wr, xk.w.cell? ⟨b, off + j * 5 + 1, none⟩ = some (.int .i64 z.xa) := fun xk => kold xk.h (hcj 1 (by omega))
                      have P2 : ∀ xk : Kept wr.heap.size wr, xk.w.cell? ⟨b, off + kk * 5 + 2, none⟩ = some (.int .i64 y.ya) := fun xk => kold xk.h (hck 2 (by omega))
                      have Q2 : ∀ xk : Kept wr.heap.size wr, xk.w.cell? ⟨b, off + j * 5 + 2, none⟩ = some (.int .i64 z.ya) := fun xk => kold xk.h (hcj 2 (by omega))
                      have P3 : ∀ xk : Kept wr.heap.size wr, xk.w.cell? ⟨b, off + kk * 5 + 3, none⟩ = some (.int .i64 y.xb) := fun xk => kold xk.h (hck 3 (by omega))
                      have Q3 : ∀ xk : Kept wr.heap.size wr, xk.w.cell? ⟨b, off + j * 5 + 3, none⟩ = some (.int .i64 z.xb) := fun xk => kold xk.h (hcj 3 (by omega))
                      have P4 : ∀ xk : Kept wr.heap.size wr, xk.w.cell? ⟨b, off + kk * 5 + 4, none⟩ = some (.int .i64 y.yb) := fun xk => kold xk.h (hck 4 (by omega))
                      have Q4 : ∀ xk : Kept wr.heap.size wr, xk.w.cell? ⟨b, off + j * 5 + 4, none⟩ = some (.int .i64 z.yb) := fun xk => kold xk.h (hcj 4 (by omega))
                      obtain ⟨t, ht⟩ : ∃ t : Bool, (t = true ↔ jn y z) := by
                        by_cases h : jn y z
                        · exact ⟨true, by simp [h]⟩
                        · exact ⟨false, by simp [h]⟩
                      have HTJ : Hid (t = true ↔ jn (S kk) (S j)) := by rw [← hy, ← hz]; exact ht
                      have hry : Rok y := by rw [hy]; exact HOK.out kk hkkn.out
                      have hrz : Rok z := by rw [hz]; exact HOK.out j hjn
                      have HI : ∀ xk : Kept wr.heap.size wr, Calls Try.prog 83 #[.agg #[.int .i64 y.ly, .int .i64 y.xa, .int .i64 y.ya, .int .i64 y.xb, .int .i64 y.yb], .agg #[.int .i64 z.ly, .int .i64 z.xa, .int .i64 z.ya, .int .i64 z.xb, .int .i64 z.yb]] xk.w fun e w' => e = .returned (.bool t) ∧ Below xk.w.heap.size xk.w w' := fun xk => sJoined_any hry hrz t ht xk.w
                      have hkkI : (kk : Int) < n := by have := hkkn.out; omega
                      clear hck hcj hy hz hry hrz ht
                      go_upto_region 19 with fail
                      refine wp_region_kept wr.heap.size (by kernel_rfl) (by kernel_rfl) ?_
                      intro hne
                      repeat (go_big_quiet_step (first | (go_at_call 83; exact Calls.kept_of (Nat.le_refl _) (HI _))))
                      refine wpQuiet_nil ?_
                      rintro u ⟨xk, hxk⟩
                      have hR1 := xk.h
                      rw [← hxk] at hR1
                      have HU : Hid (Sd w u g L0 n F ∧ Tdl u L0 u7 xs) := ⟨HT.out.2.1.later (hR1.mono HT.out.2.1.sz), HT.out.2.2.1.later hR1⟩
                      clear hxk xk hne K0 hR1 HI P0 P1 P2 P3 P4 Q0 Q1 Q2 Q3 Q4
                      cases t with
                      | false =>
                        have HF : Hid (Nw.Lk (fun a b => jn (S a) (S b)) n (i + 1) (N + 1) F xs kk (j + 1) ∧ Sd w u g L0 n F ∧ Tdl u L0 u7 xs ∧ 2 * Nw.cu F n + xs.length ≤ M0) := ⟨HT.out.1.pass (fun a b => jn_symm) hjn (Or.inr fun h => by have := HTJ.out.2 h; cases this), HU.out.1, HU.out.2, HT.out.2.2.2⟩
                        clear HT HU
                        go_wp2
                        go_roundw
                        case rel => exact ⟨j + 1, F, xs, by omega, by simp, HF⟩
                        case measure => simp [intOf]; omega
                      | true =>
                        have HG : Hid (Nw.Lk (fun a b => jn (S a) (S b)) n (i + 1) (N + 1) (fun a => if a = j then N else F a) (xs ++ [j]) kk (j + 1) ∧ 2 * Nw.cu (fun a => if a = j then N else F a) n + (xs ++ [j]).length ≤ M0) := by
                          have h1 := HT.out.1.take hjn (by omega) (by rw [← HX.out]; exact hxn) (HTJ.out.1 rfl)
                          rw [show N + 1 - 1 = N by omega] at h1
                          have h2 := Nw.cu_take (F := F) hN0 hjn (by rw [← HX.out]; exact hxn)
                          have h3 := HT.out.2.2.2
                          refine ⟨h1, ?_⟩
                          rw [List.length_append, List.length_singleton]
                          omega
                        have hcu : u.cell? ⟨g, j, none⟩ = some (.int .i64 x2) := by
                          have := HU.out.1.seg.cell hjn
                          rw [Nat.zero_add] at this
                          rw [HX.out]
                          exact this
                        have hfz : ∀ j, u.frozen? ⟨g, j, none⟩ = false := fun j => HU.out.1.seg.frozen j
                        obtain ⟨v, hv⟩ : ∃ W, W = u.setCell ⟨g, j, none⟩ (.int .i64 N) := ⟨_, rfl⟩
                        have HV : Hid (Sd w v g L0 n (fun a => if a = j then N else F a) ∧ Tdl v L0 u7 xs ∧ v = u.setCell ⟨g, j, none⟩ (.int .i64 N)) := by
                          refine ⟨by rw [hv]; exact HU.out.1.set hjn N, ?_, hv⟩
                          rw [hv]
                          refine HU.out.2.keepOn fun k hk => ?_
                          have := (HU.out.2.lt k hk).1
                          exact Below.heap_setCell _ _ _ _ (by show k ≠ g; have := HU.out.1.gl.2; omega)
                        have hxl : xs.length ≤ 1000000 := by have h1 := HT.out.2.2.2; have h2 := HMB.out; omega
                        have HXL : Hid (xs.length ≤ 1000000) := hxl
                        clear hv HT HU hxl
                        go_upto_region 21 with fail
                        rw [← HV.out.2.2]
                        clear hcu hfz
                        go_wp2_with (first | (at_builtin; refine pushT rfl (.tmp 77) (.tmp 79) rfl v j L0 u7 xs (by simp [Act.eval]) HV.out.2.1 1 (by simp [Act.eval]) HXL.out HV.out.1.sz ?_; intro v8 w8 ho8 hb8; have HF : Hid (Nw.Lk (fun a b => jn (S a) (S b)) n (i + 1) (N + 1) (fun a => if a = j then N else F a) (xs ++ [j]) kk (j + 1) ∧ Sd w w8 g L0 n (fun a => if a = j then N else F a) ∧ Tdl w8 L0 v8 (xs ++ [j]) ∧ 2 * Nw.cu (fun a => if a = j then N else F a) n + (xs ++ [j]).length ≤ M0) := ⟨HG.out.1, HV.out.1.later hb8, ho8, HG.out.2⟩; clear ho8 hb8))
                        go_roundw
                        case rel => exact ⟨j + 1, _, _, by omega, by simp, HF⟩
                        case measure => simp [intOf]; omega
                  · obtain rfl : n = j := by omega
                    obtain ⟨ta, tc, ev7⟩ := HT.out.2.2.1.form
                    subst ev7
                    have HF : Hid (Nw.Wk (fun a b => jn (S a) (S b)) n (i + 1) (N + 1) F xs ∧ Sd w wr g L0 n F ∧ Tdl wr L0 (.slice ta xs.length tc) xs ∧ 2 * Nw.cu F n + xs.length ≤ 121) := ⟨HT.out.1.stop, HT.out.2.1, HT.out.2.2.1, by have := HT.out.2.2.2; have := HMB.out; omega⟩
                    have HM : Hid (2 * Nw.cu (rdI wr g) n + xs.length ≤ M0) := by
                      show _ ≤ _
                      rw [cu_rd HT.out.2.1.seg]
                      exact HT.out.2.2.2
                    clear HT hcell
                    go_wp2
                    go_roundw
                    case rel => exact ⟨F, xs, HF⟩
                    case measure =>
                      have h1 := HM.out
                      have h2 := HM0.out
                      simp only [lenV] at *
                      simp [lenV]
                      omega
        · obtain rfl : n = i := by omega
          have HQ : Hid (OwnI w.heap.size wr.heap.size wr 0 (.slice (some ⟨g, 0, none⟩) n cp) (fints F n) ∧ Nw.Nets (fun a b => jn (S a) (S b)) n F ∧ Below w.heap.size w wr) := by
            refine ⟨Or.inr ⟨rfl, Or.inr ⟨g, cp, by rw [fints_len], HW.out.2.gl.1, HW.out.2.seg.lt, ?_⟩⟩, HW.out.1.nets, HW.out.2.be⟩
            rw [fints_len]
            exact HW.out.2.seg.congr fun j hj => by rw [fints_at F hj]
          clear HW HA
          go_wp2
          go_ret
          exact ⟨_, F, rfl, HQ.out⟩
end Go.Proofs.Ytclnmikneomccaa
