/- A glass's line by the program: its contract. -/
import Derived.Test.YtndfncjoknibaaaDoorLy
import Derived.Test.YtndfncjoknibaaaDoorCo
import Derived.Test.YtndfncjoknibaaaDoorGq
namespace Go.Proofs.YtndfncjoknibaaaDoor
open Go.RowKit Fl
set_option linter.unusedVariables false
theorem gTab : Tryd.prog.globalNamed "internal/strconv.uint64pow10" = some 3 := by kernel_rfl
/-- The program's tables and the library's. -/
structure WTab (w : World) : Prop where
  t : Tab w
  w0 : w.cell? ⟨1, 0, none⟩ = some (.string ⟨#[103, 108, 97, 115, 115]⟩)
  w1 : w.cell? ⟨1, 1, none⟩ = some (.string ⟨#[115, 105, 120]⟩)
  w2 : w.cell? ⟨1, 2, none⟩ = some (.string ⟨#[116, 104, 114, 101, 101]⟩)
  pow : Lib.TabIs Tryd.prog w "internal/strconv.uint64pow10" .u64 Lib.pow10Tab
theorem WTab.pos {w : World} (h : WTab w) : 3 < w.heap.size := by
  have h1 := h.pow
  unfold Lib.TabIs World.var? at h1
  rw [gTab] at h1
  simp only [Option.bind_some] at h1
  by_cases hs : 3 < w.heap.size
  · exact hs
  · rw [Array.getElem?_eq_none (by omega)] at h1
    simp at h1
theorem WTab.later {w w' : World} (h : WTab w) (hb : Below w.heap.size w w') : WTab w' := by
  have hp := h.pos
  exact ⟨h.t.later hb, (hb.cell (by show 1 < _; omega)).trans h.w0, (hb.cell (by show 1 < _; omega)).trans h.w1, (hb.cell (by show 1 < _; omega)).trans h.w2, var?_below hb gTab hp h.pow⟩
theorem info9 : (Tryd.prog.info? 9).map (fun i => (i.zero, i.size, i.bytes)) = some (some (.string ⟨#[]⟩), 1, 16) := by kernel_rfl
def wordK (kd : Int) : ByteArray := if kd = 1 then ⟨#[115, 105, 120]⟩ else ⟨#[116, 104, 114, 101, 101]⟩
def numB (z : Int) : ByteArray := ⟨(Lib.itoa z).toArray⟩
/-- The words of a glass's line. -/
def ws (g : Gl) : List ByteArray := [⟨#[103, 108, 97, 115, 115]⟩, g.s, wordK g.kd] ++ (List.range (2 + g.n)).map fun i => numB (cat g.lo g.hi g.f i)
theorem ws_len (g : Gl) : (ws g).length = 3 + (2 + g.n) := by simp [ws]; omega
/-- A glass's line. -/
def lineB (g : Gl) : ByteArray := ⟨(Lib.join ((ws g).map (·.data.toList)) [32]).toArray⟩ ++ ⟨#[10]⟩
/-- What is known of a right glass. -/
structure Right (g : Gl) : Prop where
  nm : g.s.size ≤ 20
  kn : (g.kd = 1 ∧ g.n = 6) ∨ (g.kd = 2 ∧ g.n = 3)
  lo : 1 ≤ g.lo ∧ g.lo ≤ 100000
  hi : 1 ≤ g.hi ∧ g.hi ≤ 100000
  fs : ∀ i, i < g.n → -1000000000000 ≤ g.f i ∧ g.f i ≤ 1000000000000
theorem Right.cat {g : Gl} (h : Right g) {i : Nat} (hi : i < 2 + g.n) : -1000000000000 ≤ cat g.lo g.hi g.f i ∧ cat g.lo g.hi g.f i ≤ 1000000000000 := by
  have h1 := h.lo
  have h2 := h.hi
  unfold Go.Proofs.YtndfncjoknibaaaDoor.cat
  split
  · omega
  · split
    · omega
    · exact h.fs _ (by omega)
theorem join_len {xs : List (List UInt8)} (h : ∀ x ∈ xs, x.length ≤ 30) : (Lib.join xs [32]).length ≤ 31 * xs.length := by
  cases xs with
  | nil => simp [Lib.join_nil]
  | cons x r =>
    rw [Lib.join_cons]
    have hx := h x (by simp)
    have : (Lib.joinTail [32] r).length ≤ 31 * r.length := by
      unfold Lib.joinTail
      have hr : ∀ y ∈ r, y.length ≤ 30 := fun y hy => h y (by simp [hy])
      clear h hx
      induction r with
      | nil => simp
      | cons y r ih =>
        have h1 := hr y (by simp)
        have h2 := ih (fun z hz => hr z (by simp [hz]))
        simp only [List.map_cons, List.flatten_cons, List.length_append, List.length_cons, List.length_nil] at h2 ⊢
        omega
    simp only [List.length_append, List.length_cons]
    omega
theorem Right.words {g : Gl} (h : Right g) : ∀ x ∈ (ws g).map (·.data.toList), x.length ≤ 30 := by
  intro x hx
  obtain ⟨y, hy, rfl⟩ := List.mem_map.1 hx
  unfold ws at hy
  rcases List.mem_append.1 hy with hy | hy
  · simp only [List.mem_cons, List.mem_nil_iff, or_false] at hy
    rcases hy with rfl | rfl | rfl
    · decide
    · have := h.nm
      show g.s.data.toList.length ≤ 30
      have e : g.s.data.toList.length = g.s.size := Array.length_toList
      omega
    · unfold wordK; split <;> decide
  · obtain ⟨i, hi, rfl⟩ := List.mem_map.1 hy
    have hb := h.cat (List.mem_range.1 hi)
    have := Lib.itoa_length_le (Go.Proofs.YtndfncjoknibaaaDoor.cat g.lo g.hi g.f i) (by omega) (by omega)
    show (Lib.itoa _).toArray.toList.length ≤ 30
    simp
    omega
theorem Right.joined {g : Gl} (h : Right g) : (Lib.join ((ws g).map (·.data.toList)) [32]).length ≤ 400 := by
  have h1 := join_len h.words
  rw [List.length_map, ws_len] at h1
  have h2 := h.kn
  omega
/-- A block that an append to a row of another type leaves as it was. -/
theorem Seg.grown {w w' : World} {b : Nat} {t : TypeId} {off n : Nat} {f : Nat → Value} {row : Option Nat} (h : Seg w b t off n f) (hg : w.grownBy w' row) (hr : ∀ g, row = some g → g ≠ b) : Seg w' b t off n f :=
  h.of_block (hg.block b h.lt fun e => hr b e.symm rfl)
theorem owns_ne {w : World} {base n m : Nat} {t t' : TypeId} {v : Value} {xs : List Value} (h : w.ownsRow base t m v n xs) {b off k : Nat} {f : Nat → Value} (hs : Seg w b t' off k f) (ht : t ≠ t') : ∀ g, v.ownBlock = some g → g ≠ b := by
  intro g hg e
  subst e
  obtain ⟨c, hb, _⟩ := hs
  obtain ⟨_, ⟨rfl, _⟩ | ⟨g', cap, cur, rfl, _, hh, _⟩⟩ := h
  · simp [Value.ownBlock] at hg
  · simp [Value.ownBlock] at hg
    subst hg
    rw [hh] at hb
    simp at hb
    exact ht hb.2
theorem owned_cap {w : World} {base n m : Nat} {t : TypeId} {v : Value} {xs : List Value} (h : w.ownsRow base t m v n xs) (hv : v ≠ .slice none 0 0) :
    ∃ g cap, v = .slice (some ⟨g, 0, none⟩) n cap ∧ base ≤ g ∧ n ≤ cap ∧ Seg w g t 0 (n * m) (fun i => xs.getD i undef) := by
  obtain ⟨g, cap, e, hg, hs⟩ := owned_seg h hv
  obtain ⟨_, h | ⟨g', cap', cur, hv', _, _, h1, _⟩⟩ := h
  · exact absurd h.1 hv
  · rw [e] at hv'
    simp at hv'
    exact ⟨g, cap, e, hg, by omega, hs⟩
/-- The first m words, as values. -/
def wv (g : Gl) (m : Nat) : List Value := ((ws g).take m).map .string
theorem wv_push {g : Gl} {k : Nat} (h : k < 2 + g.n) : wv g (3 + k) ++ [.string (numB (cat g.lo g.hi g.f k))] = wv g (3 + (k + 1)) := by
  unfold wv
  rw [show 3 + (k + 1) = (3 + k) + 1 by omega, List.take_add_one, List.map_append]
  congr 1
  have : (ws g)[3 + k]? = some (numB (cat g.lo g.hi g.f k)) := by
    unfold ws
    rw [List.getElem?_append_right (by simp)]
    simp [h]
  rw [this]
  rfl
set_option maxHeartbeats 3200000 in
theorem iLine1 {g : Gl} {b off cap : Nat} {w : World} (R : Right g) (T : WTab w) (ek : g.kd = 1) (en : g.n = 6) (hc : ∀ i, i < 6 → w.cell? ⟨b, off + i, none⟩ = some (.int .i64 (g.f i))) :
    Calls Tryd.prog 66 #[.agg #[.string g.s, .int .i64 1, .int .i64 g.lo, .int .i64 g.hi, .slice (some ⟨b, off, none⟩) 6 cap, .float .f64 g.x]] w fun e w' => e = .returned (.string (lineB g)) ∧ Below w.heap.size w w' := by
  have HR : Hid (Right g ∧ g.kd = 1 ∧ g.n = 6) := ⟨R, ek, en⟩
  have hst := st64
  go_enter Tryd.func66, Tryd.ntmps66
  obtain ⟨X, hX⟩ : ∃ X, X = w.alloc (.cells #[.string g.s, .int .i64 1, .int .i64 g.lo, .int .i64 g.hi, .slice (some ⟨b, off, none⟩) 6 cap, .float .f64 g.x] 28) := ⟨_, rfl⟩
  have hXs : X.heap.size = w.heap.size + 1 := by rw [hX]; simp
  have HX : Hid (Below w.heap.size w X ∧ Six X w.heap.size (.string g.s) (.int .i64 1) (.int .i64 g.lo) (.int .i64 g.hi) (.slice (some ⟨b, off, none⟩) 6 cap) (.float .f64 g.x) ∧ WTab X ∧ (∀ i, i < 6 → X.cell? ⟨b, off + i, none⟩ = some (.int .i64 (g.f i))) ∧ X.heap.size = w.heap.size + 1) := by
    have h1 : Below w.heap.size w X := by rw [hX]; exact (Below.refl _ _).alloc (Nat.le_refl _) _
    exact ⟨h1, by rw [hX]; exact six_new _ _ _ _ _ _ _ _, T.later h1, fun i hi => by rw [hX]; exact alloc_keeps (hc i hi), hXs⟩
  have HT : Hid (∀ W, Below w.heap.size w W → WTab W) := fun W h => T.later h
  clear R T ek en hc hXs
  have z0 : ∀ W, Below X.heap.size X W → W.cell? ⟨w.heap.size, 0, none⟩ = some (.string g.s) := fun W h => (HX.out.2.1.later h).c0
  have z1 : ∀ W, Below X.heap.size X W → W.cell? ⟨w.heap.size, 1, none⟩ = some (.int .i64 1) := fun W h => (HX.out.2.1.later h).c1
  have u0 : ∀ W, Below X.heap.size X W → W.cell? ⟨1, 0, none⟩ = some (.string ⟨#[103, 108, 97, 115, 115]⟩) := fun W h => (HX.out.2.2.1.later h).w0
  have u1 : ∀ W, Below X.heap.size X W → W.cell? ⟨1, 1, none⟩ = some (.string ⟨#[115, 105, 120]⟩) := fun W h => (HX.out.2.2.1.later h).w1
  have hR0 : Below X.heap.size X X := Below.refl _ _
  go_wp2_with fail
  rw [← hX]
  clear hX
  go_region_held (fun W => Below X.heap.size X W) (first | with_reducible assumption | with_reducible exact Below.drew ‹_› | go_grown) (fail)
  all_goals
    obtain ⟨V, hV⟩ : ∃ V, V = (X.alloc (.cells #[.string ⟨#[103, 108, 97, 115, 115]⟩, .string g.s, .string ⟨#[115, 105, 120]⟩] 9)).drew := ⟨_, rfl⟩
    rw [← hV]
    have HV : Hid (Below X.heap.size X V ∧ V.ownsRow X.heap.size 9 1 (.slice (some ⟨X.heap.size, 0, none⟩) 3 3) 3 (wv g 3)) := by
      refine ⟨by rw [hV]; exact ((Below.refl _ _).alloc (Nat.le_refl _) _).drew, ?_⟩
      rw [hV]
      refine ⟨by simp [wv, ws], Or.inr ⟨X.heap.size, 3, #[.string ⟨#[103, 108, 97, 115, 115]⟩, .string g.s, .string ⟨#[115, 105, 120]⟩], rfl, Nat.le_refl _, heap_alloc_new X _, Nat.le_refl _, by unfold maxLen; omega, rfl, ?_⟩⟩
      simp [wv, ws, wordK, HR.out.2.1]
    clear hV
    have e2 := (HX.out.2.1.later HV.out.1).c2
    have e3 := (HX.out.2.1.later HV.out.1).c3
    have e4' := (HX.out.2.1.later HV.out.1).c4
    have e4 : ∀ o, (V.alloc o).cell? ⟨w.heap.size, 4, none⟩ = some (.slice (some ⟨b, off, none⟩) 6 cap) := fun o => alloc_keeps e4'
    have hne : ¬ w.heap.size = V.heap.size := by have := World.block_lt_of_cell? _ _ e2; simp at this; omega
    obtain ⟨U, hU⟩ : ∃ U, U = (V.alloc (.cells #[.int .i64 g.lo, .int .i64 g.hi] 2)).alloc (.cells #[.slice (some ⟨V.heap.size, 0, none⟩) 2 2, .slice (some ⟨b, off, none⟩) 6 cap] 22) := ⟨_, rfl⟩
    have HU : Hid (Below V.heap.size V U ∧ U.cell? ⟨V.heap.size + 1, 0, none⟩ = some (.slice (some ⟨V.heap.size, 0, none⟩) 2 2) ∧ U.cell? ⟨V.heap.size + 1, 1, none⟩ = some (.slice (some ⟨b, off, none⟩) 6 cap) ∧ (∀ i, i < 2 → U.cell? ⟨V.heap.size, 0 + i, none⟩ = some (.int .i64 (two g.lo g.hi i))) ∧ (∀ i, i < 6 → U.cell? ⟨b, off + i, none⟩ = some (.int .i64 (g.f i)))) := by
      have h1 : Below V.heap.size V U := by rw [hU]; exact ((Below.refl _ _).alloc (Nat.le_refl _) _).alloc (by simp) _
      have h2 : U.cell? ⟨V.heap.size + 1, 0, none⟩ = some (.slice (some ⟨V.heap.size, 0, none⟩) 2 2) := by rw [hU]; simp
      have h3 : U.cell? ⟨V.heap.size + 1, 1, none⟩ = some (.slice (some ⟨b, off, none⟩) 6 cap) := by rw [hU]; simp
      refine ⟨h1, h2, h3, fun i hi => ?_, fun i hi => ?_⟩
      · have h4 : i = 0 ∨ i = 1 := by omega
        rcases h4 with rfl | rfl <;> rw [hU] <;> simp [two]
      · have h5 := HX.out.2.2.2.1 i hi
        have h6 : V.cell? ⟨b, off + i, none⟩ = some (.int .i64 (g.f i)) := (HV.out.1.cell (World.block_lt_of_cell? _ _ h5)).trans h5
        exact (h1.cell (World.block_lt_of_cell? _ _ h6)).trans h6
    go_wp2_with fail
    rw [← hU]
    clear hU e2 e3 e4 e4' hne z0 z1 u0 u1 hR0
    refine (concat_any (lo := g.lo) (hi := g.hi) (f := g.f) (by omega) (by omega) HU.out.2.1 HU.out.2.2.1 HU.out.2.2.2.1 HU.out.2.2.2.2).mono ?_
    rintro e w1 ⟨q, cp, rfl, hq, sg, bl⟩
    have A1 : Hid (Below w.heap.size w w1 ∧ Seg w1 q 2 0 (2 + 6) (fun i => .int .i64 (cat g.lo g.hi g.f i)) ∧ w1.ownsRow X.heap.size 9 1 (.slice (some ⟨X.heap.size, 0, none⟩) 3 3) 3 (wv g 3) ∧ X.heap.size ≤ w1.heap.size) := by
      have hB : Below V.heap.size V w1 := box_step HU.out.1 bl (Nat.le_refl _)
      have hB2 : Below X.heap.size X w1 := box_step HV.out.1 hB (Nat.le_refl _)
      exact ⟨HX.out.1.trans (hB2.mono HX.out.1.size), sg, owns_later HV.out.2 hB, hB2.size⟩
    clear hq sg bl
    go_wp2_with fail
    go_loopw [3, 25] (fun v i wr => ∃ k : Nat, k ≤ 2 + 6 ∧ i = .int .i64 k ∧ v ≠ .slice none 0 0 ∧ wr.ownsRow X.heap.size 9 1 v (3 + k) (wv g (3 + k)) ∧ Seg wr q 2 0 (2 + 6) (fun i => .int .i64 (cat g.lo g.hi g.f i)) ∧ Below w.heap.size w wr ∧ X.heap.size ≤ wr.heap.size) (fun _ i _ => 2 + 6 - (intOf i).toNat)
    case atStart => exact ⟨0, by omega, rfl, by simp, A1.out.2.2.1, A1.out.2.1, A1.out.1, A1.out.2.2.2⟩
    case round =>
      obtain ⟨k, hk, rfl, hnn, ho, hsg, hb, hxs⟩ := hrel
      by_cases hlt : k < 2 + 6
      · have g1 : wr.cell? ⟨q, k, none⟩ = some (.int .i64 (cat g.lo g.hi g.f k)) := by simpa using hsg.cell hlt
        have AW : Hid (wr.ownsRow X.heap.size 9 1 u3 (3 + k) (wv g (3 + k)) ∧ Seg wr q 2 0 (2 + 6) (fun i => .int .i64 (cat g.lo g.hi g.f i)) ∧ Below w.heap.size w wr ∧ X.heap.size ≤ wr.heap.size) := ⟨ho, hsg, hb, hxs⟩
        have hcb := HR.out.1.cat (i := k) (by rw [HR.out.2.2]; exact hlt)
        obtain ⟨cb1, cb2⟩ := hcb
        have HF : Hid (Calls Tryd.prog 86 #[.int .i64 (cat g.lo g.hi g.f k), .int .i64 10] wr fun e w' => e = .returned (.string (numB (cat g.lo g.hi g.f k))) ∧ Below wr.heap.size wr w') := fmtInt _ (by omega) (by omega) wr (HT.out _ hb).pow
        have HP : Hid (wv g (3 + k) ++ [.string (numB (cat g.lo g.hi g.f k))] = wv g (3 + (k + 1))) := wv_push (by rw [HR.out.2.2]; exact hlt)
        generalize cat g.lo g.hi g.f k = z at *
        generalize numB z = nb at *
        clear ho hsg hb hxs hnn cb1 cb2
        go_wp2_with (first | (go_at_call 86; refine HF.out.mono ?_; rintro e w2 ⟨rfl, b2⟩; have AX : Hid (w2.ownsRow X.heap.size 9 1 u3 (3 + k) (wv g (3 + k)) ∧ Seg w2 q 2 0 (2 + 6) (fun i => .int .i64 (cat g.lo g.hi g.f i)) ∧ Below w.heap.size w w2 ∧ X.heap.size ≤ w2.heap.size) := ⟨owns_later AW.out.1 b2, AW.out.2.1.of_block (b2.block _ AW.out.2.1.lt), box_step AW.out.2.2.1 b2 (Nat.le_refl _), Nat.le_trans AW.out.2.2.2 b2.size⟩; clear b2) | (at_builtin; refine push_law rfl (.tmp 29) (.tmp 32) 102 rfl 9 (.string ⟨#[]⟩) 1 16 Tryd.underlying102 info9 rfl (by decide) (by decide) w2 [_] rfl (by simp [Value.oneCell']) X.heap.size u3 (3 + k) _ rfl AX.out.1 1 rfl (by omega) AX.out.2.2.2 ?_; intro v1 w3 own3 grow3 nn3))
        have A3 : Hid (v1 ≠ .slice none 0 0 ∧ w3.ownsRow X.heap.size 9 1 v1 (3 + (k + 1)) (wv g (3 + (k + 1))) ∧ Seg w3 q 2 0 (2 + 6) (fun i => .int .i64 (cat g.lo g.hi g.f i)) ∧ Below w.heap.size w w3 ∧ X.heap.size ≤ w3.heap.size) := by
          have hxw : w.heap.size ≤ X.heap.size := HX.out.1.size
          have hg3 : Below X.heap.size w2 w3 := push_below AX.out.1 grow3 (Below.refl _ _) AX.out.2.2.2
          rw [HP.out] at own3
          exact ⟨nn3, own3, (AX.out.2.1.alloc _).grown grow3 (owns_ne AX.out.1 AX.out.2.1 (by decide)), AX.out.2.2.1.trans (hg3.mono hxw), Nat.le_trans AX.out.2.2.2 hg3.size⟩
        clear own3 grow3 nn3 g1 AW AX HF HP
        go_wp2
        go_roundw
        case rel => exact ⟨k + 1, by omega, by simp, A3.out⟩
        case measure => simp [intOf]; omega
      · obtain rfl : k = 2 + 6 := by omega
        obtain ⟨gb, gcap, rfl, hgb, hcap, hsw⟩ := owned_cap ho hnn
        have hJ : Calls Tryd.prog 87 #[.slice (some ⟨gb, 0, none⟩) (ws g).length gcap, .string ⟨#[32]⟩] wr fun e w' => e = .returned (.string ⟨(Lib.join ((ws g).map (·.data.toList)) [32]).toArray⟩) ∧ Below wr.heap.size wr w' := by
          have hl := ws_len g
          rw [HR.out.2.2] at hl
          refine join_any gb gcap (ws g) ⟨#[32]⟩ wr (fun j x hx => ?_) hsw.lt (by rw [hl]; omega) (by rw [hl]; exact hcap) (by have := HR.out.1.joined; exact Nat.le_trans this (by omega))
          have hj : j < (ws g).length := (List.getElem?_eq_some_iff.1 hx).1
          have h1 := hsw.cell (i := j) (by omega)
          rw [Nat.zero_add] at h1
          rw [h1]
          congr 1
          unfold wv
          rw [List.take_of_length_le (by omega), List.getD_eq_getElem?_getD, List.getElem?_map, hx]
          rfl
        rw [ws_len, HR.out.2.2] at hJ
        have HJ : Hid (Calls Tryd.prog 87 #[.slice (some ⟨gb, 0, none⟩) (3 + (2 + 6)) gcap, .string ⟨#[32]⟩] wr fun e w' => e = .returned (.string ⟨(Lib.join ((ws g).map (·.data.toList)) [32]).toArray⟩) ∧ Below wr.heap.size wr w') := hJ
        have HB : Hid (Below w.heap.size w wr) := hb
        have hjl : (Lib.join ((ws g).map (·.data.toList)) [32]).length ≤ 400 := HR.out.1.joined
        have HL : Hid (lineB g = ⟨(Lib.join ((ws g).map (·.data.toList)) [32]).toArray⟩ ++ ⟨#[10]⟩) := rfl
        generalize Lib.join ((ws g).map (·.data.toList)) [32] = jl at *
        clear ho hnn hsg hb hxs hJ hsw hcap hgb
        go_wp2_with (go_at_call 87; refine HJ.out.mono ?_; rintro e w2 ⟨rfl, b2⟩; have HB2 : Hid (Below w.heap.size w w2) := box_step HB.out b2 (Nat.le_refl _); clear b2)
        go_ret
        exact ⟨by rw [HL.out]; rfl, HB2.out⟩
set_option maxHeartbeats 3200000 in
theorem iLine2 {g : Gl} {b off cap : Nat} {w : World} (R : Right g) (T : WTab w) (ek : g.kd = 2) (en : g.n = 3) (hc : ∀ i, i < 3 → w.cell? ⟨b, off + i, none⟩ = some (.int .i64 (g.f i))) :
    Calls Tryd.prog 66 #[.agg #[.string g.s, .int .i64 2, .int .i64 g.lo, .int .i64 g.hi, .slice (some ⟨b, off, none⟩) 3 cap, .float .f64 g.x]] w fun e w' => e = .returned (.string (lineB g)) ∧ Below w.heap.size w w' := by
  have HR : Hid (Right g ∧ g.kd = 2 ∧ g.n = 3) := ⟨R, ek, en⟩
  have hst := st64
  go_enter Tryd.func66, Tryd.ntmps66
  obtain ⟨X, hX⟩ : ∃ X, X = w.alloc (.cells #[.string g.s, .int .i64 2, .int .i64 g.lo, .int .i64 g.hi, .slice (some ⟨b, off, none⟩) 3 cap, .float .f64 g.x] 28) := ⟨_, rfl⟩
  have hXs : X.heap.size = w.heap.size + 1 := by rw [hX]; simp
  have HX : Hid (Below w.heap.size w X ∧ Six X w.heap.size (.string g.s) (.int .i64 2) (.int .i64 g.lo) (.int .i64 g.hi) (.slice (some ⟨b, off, none⟩) 3 cap) (.float .f64 g.x) ∧ WTab X ∧ (∀ i, i < 3 → X.cell? ⟨b, off + i, none⟩ = some (.int .i64 (g.f i))) ∧ X.heap.size = w.heap.size + 1) := by
    have h1 : Below w.heap.size w X := by rw [hX]; exact (Below.refl _ _).alloc (Nat.le_refl _) _
    exact ⟨h1, by rw [hX]; exact six_new _ _ _ _ _ _ _ _, T.later h1, fun i hi => by rw [hX]; exact alloc_keeps (hc i hi), hXs⟩
  have HT : Hid (∀ W, Below w.heap.size w W → WTab W) := fun W h => T.later h
  clear R T ek en hc hXs
  have z0 : ∀ W, Below X.heap.size X W → W.cell? ⟨w.heap.size, 0, none⟩ = some (.string g.s) := fun W h => (HX.out.2.1.later h).c0
  have z1 : ∀ W, Below X.heap.size X W → W.cell? ⟨w.heap.size, 1, none⟩ = some (.int .i64 2) := fun W h => (HX.out.2.1.later h).c1
  have u0 : ∀ W, Below X.heap.size X W → W.cell? ⟨1, 0, none⟩ = some (.string ⟨#[103, 108, 97, 115, 115]⟩) := fun W h => (HX.out.2.2.1.later h).w0
  have u1 : ∀ W, Below X.heap.size X W → W.cell? ⟨1, 2, none⟩ = some (.string ⟨#[116, 104, 114, 101, 101]⟩) := fun W h => (HX.out.2.2.1.later h).w2
  have hR0 : Below X.heap.size X X := Below.refl _ _
  go_wp2_with fail
  rw [← hX]
  clear hX
  go_region_held (fun W => Below X.heap.size X W) (first | with_reducible assumption | with_reducible exact Below.drew ‹_› | go_grown) (fail)
  all_goals
    obtain ⟨V, hV⟩ : ∃ V, V = (X.alloc (.cells #[.string ⟨#[103, 108, 97, 115, 115]⟩, .string g.s, .string ⟨#[116, 104, 114, 101, 101]⟩] 9)).drew := ⟨_, rfl⟩
    rw [← hV]
    have HV : Hid (Below X.heap.size X V ∧ V.ownsRow X.heap.size 9 1 (.slice (some ⟨X.heap.size, 0, none⟩) 3 3) 3 (wv g 3)) := by
      refine ⟨by rw [hV]; exact ((Below.refl _ _).alloc (Nat.le_refl _) _).drew, ?_⟩
      rw [hV]
      refine ⟨by simp [wv, ws], Or.inr ⟨X.heap.size, 3, #[.string ⟨#[103, 108, 97, 115, 115]⟩, .string g.s, .string ⟨#[116, 104, 114, 101, 101]⟩], rfl, Nat.le_refl _, heap_alloc_new X _, Nat.le_refl _, by unfold maxLen; omega, rfl, ?_⟩⟩
      simp [wv, ws, wordK, HR.out.2.1]
    clear hV
    have e2 := (HX.out.2.1.later HV.out.1).c2
    have e3 := (HX.out.2.1.later HV.out.1).c3
    have e4' := (HX.out.2.1.later HV.out.1).c4
    have e4 : ∀ o, (V.alloc o).cell? ⟨w.heap.size, 4, none⟩ = some (.slice (some ⟨b, off, none⟩) 3 cap) := fun o => alloc_keeps e4'
    have hne : ¬ w.heap.size = V.heap.size := by have := World.block_lt_of_cell? _ _ e2; simp at this; omega
    obtain ⟨U, hU⟩ : ∃ U, U = (V.alloc (.cells #[.int .i64 g.lo, .int .i64 g.hi] 2)).alloc (.cells #[.slice (some ⟨V.heap.size, 0, none⟩) 2 2, .slice (some ⟨b, off, none⟩) 3 cap] 22) := ⟨_, rfl⟩
    have HU : Hid (Below V.heap.size V U ∧ U.cell? ⟨V.heap.size + 1, 0, none⟩ = some (.slice (some ⟨V.heap.size, 0, none⟩) 2 2) ∧ U.cell? ⟨V.heap.size + 1, 1, none⟩ = some (.slice (some ⟨b, off, none⟩) 3 cap) ∧ (∀ i, i < 2 → U.cell? ⟨V.heap.size, 0 + i, none⟩ = some (.int .i64 (two g.lo g.hi i))) ∧ (∀ i, i < 3 → U.cell? ⟨b, off + i, none⟩ = some (.int .i64 (g.f i)))) := by
      have h1 : Below V.heap.size V U := by rw [hU]; exact ((Below.refl _ _).alloc (Nat.le_refl _) _).alloc (by simp) _
      have h2 : U.cell? ⟨V.heap.size + 1, 0, none⟩ = some (.slice (some ⟨V.heap.size, 0, none⟩) 2 2) := by rw [hU]; simp
      have h3 : U.cell? ⟨V.heap.size + 1, 1, none⟩ = some (.slice (some ⟨b, off, none⟩) 3 cap) := by rw [hU]; simp
      refine ⟨h1, h2, h3, fun i hi => ?_, fun i hi => ?_⟩
      · have h4 : i = 0 ∨ i = 1 := by omega
        rcases h4 with rfl | rfl <;> rw [hU] <;> simp [two]
      · have h5 := HX.out.2.2.2.1 i hi
        have h6 : V.cell? ⟨b, off + i, none⟩ = some (.int .i64 (g.f i)) := (HV.out.1.cell (World.block_lt_of_cell? _ _ h5)).trans h5
        exact (h1.cell (World.block_lt_of_cell? _ _ h6)).trans h6
    go_wp2_with fail
    rw [← hU]
    clear hU e2 e3 e4 e4' hne z0 z1 u0 u1 hR0
    refine (concat_any (lo := g.lo) (hi := g.hi) (f := g.f) (by omega) (by omega) HU.out.2.1 HU.out.2.2.1 HU.out.2.2.2.1 HU.out.2.2.2.2).mono ?_
    rintro e w1 ⟨q, cp, rfl, hq, sg, bl⟩
    have A1 : Hid (Below w.heap.size w w1 ∧ Seg w1 q 2 0 (2 + 3) (fun i => .int .i64 (cat g.lo g.hi g.f i)) ∧ w1.ownsRow X.heap.size 9 1 (.slice (some ⟨X.heap.size, 0, none⟩) 3 3) 3 (wv g 3) ∧ X.heap.size ≤ w1.heap.size) := by
      have hB : Below V.heap.size V w1 := box_step HU.out.1 bl (Nat.le_refl _)
      have hB2 : Below X.heap.size X w1 := box_step HV.out.1 hB (Nat.le_refl _)
      exact ⟨HX.out.1.trans (hB2.mono HX.out.1.size), sg, owns_later HV.out.2 hB, hB2.size⟩
    clear hq sg bl
    go_wp2_with fail
    go_loopw [3, 25] (fun v i wr => ∃ k : Nat, k ≤ 2 + 3 ∧ i = .int .i64 k ∧ v ≠ .slice none 0 0 ∧ wr.ownsRow X.heap.size 9 1 v (3 + k) (wv g (3 + k)) ∧ Seg wr q 2 0 (2 + 3) (fun i => .int .i64 (cat g.lo g.hi g.f i)) ∧ Below w.heap.size w wr ∧ X.heap.size ≤ wr.heap.size) (fun _ i _ => 2 + 3 - (intOf i).toNat)
    case atStart => exact ⟨0, by omega, rfl, by simp, A1.out.2.2.1, A1.out.2.1, A1.out.1, A1.out.2.2.2⟩
    case round =>
      obtain ⟨k, hk, rfl, hnn, ho, hsg, hb, hxs⟩ := hrel
      by_cases hlt : k < 2 + 3
      · have g1 : wr.cell? ⟨q, k, none⟩ = some (.int .i64 (cat g.lo g.hi g.f k)) := by simpa using hsg.cell hlt
        have AW : Hid (wr.ownsRow X.heap.size 9 1 u3 (3 + k) (wv g (3 + k)) ∧ Seg wr q 2 0 (2 + 3) (fun i => .int .i64 (cat g.lo g.hi g.f i)) ∧ Below w.heap.size w wr ∧ X.heap.size ≤ wr.heap.size) := ⟨ho, hsg, hb, hxs⟩
        have hcb := HR.out.1.cat (i := k) (by rw [HR.out.2.2]; exact hlt)
        obtain ⟨cb1, cb2⟩ := hcb
        have HF : Hid (Calls Tryd.prog 86 #[.int .i64 (cat g.lo g.hi g.f k), .int .i64 10] wr fun e w' => e = .returned (.string (numB (cat g.lo g.hi g.f k))) ∧ Below wr.heap.size wr w') := fmtInt _ (by omega) (by omega) wr (HT.out _ hb).pow
        have HP : Hid (wv g (3 + k) ++ [.string (numB (cat g.lo g.hi g.f k))] = wv g (3 + (k + 1))) := wv_push (by rw [HR.out.2.2]; exact hlt)
        generalize cat g.lo g.hi g.f k = z at *
        generalize numB z = nb at *
        clear ho hsg hb hxs hnn cb1 cb2
        go_wp2_with (first | (go_at_call 86; refine HF.out.mono ?_; rintro e w2 ⟨rfl, b2⟩; have AX : Hid (w2.ownsRow X.heap.size 9 1 u3 (3 + k) (wv g (3 + k)) ∧ Seg w2 q 2 0 (2 + 3) (fun i => .int .i64 (cat g.lo g.hi g.f i)) ∧ Below w.heap.size w w2 ∧ X.heap.size ≤ w2.heap.size) := ⟨owns_later AW.out.1 b2, AW.out.2.1.of_block (b2.block _ AW.out.2.1.lt), box_step AW.out.2.2.1 b2 (Nat.le_refl _), Nat.le_trans AW.out.2.2.2 b2.size⟩; clear b2) | (at_builtin; refine push_law rfl (.tmp 29) (.tmp 32) 102 rfl 9 (.string ⟨#[]⟩) 1 16 Tryd.underlying102 info9 rfl (by decide) (by decide) w2 [_] rfl (by simp [Value.oneCell']) X.heap.size u3 (3 + k) _ rfl AX.out.1 1 rfl (by omega) AX.out.2.2.2 ?_; intro v1 w3 own3 grow3 nn3))
        have A3 : Hid (v1 ≠ .slice none 0 0 ∧ w3.ownsRow X.heap.size 9 1 v1 (3 + (k + 1)) (wv g (3 + (k + 1))) ∧ Seg w3 q 2 0 (2 + 3) (fun i => .int .i64 (cat g.lo g.hi g.f i)) ∧ Below w.heap.size w w3 ∧ X.heap.size ≤ w3.heap.size) := by
          have hxw : w.heap.size ≤ X.heap.size := HX.out.1.size
          have hg3 : Below X.heap.size w2 w3 := push_below AX.out.1 grow3 (Below.refl _ _) AX.out.2.2.2
          rw [HP.out] at own3
          exact ⟨nn3, own3, (AX.out.2.1.alloc _).grown grow3 (owns_ne AX.out.1 AX.out.2.1 (by decide)), AX.out.2.2.1.trans (hg3.mono hxw), Nat.le_trans AX.out.2.2.2 hg3.size⟩
        clear own3 grow3 nn3 g1 AW AX HF HP
        go_wp2
        go_roundw
        case rel => exact ⟨k + 1, by omega, by simp, A3.out⟩
        case measure => simp [intOf]; omega
      · obtain rfl : k = 2 + 3 := by omega
        obtain ⟨gb, gcap, rfl, hgb, hcap, hsw⟩ := owned_cap ho hnn
        have hJ : Calls Tryd.prog 87 #[.slice (some ⟨gb, 0, none⟩) (ws g).length gcap, .string ⟨#[32]⟩] wr fun e w' => e = .returned (.string ⟨(Lib.join ((ws g).map (·.data.toList)) [32]).toArray⟩) ∧ Below wr.heap.size wr w' := by
          have hl := ws_len g
          rw [HR.out.2.2] at hl
          refine join_any gb gcap (ws g) ⟨#[32]⟩ wr (fun j x hx => ?_) hsw.lt (by rw [hl]; omega) (by rw [hl]; exact hcap) (by have := HR.out.1.joined; exact Nat.le_trans this (by omega))
          have hj : j < (ws g).length := (List.getElem?_eq_some_iff.1 hx).1
          have h1 := hsw.cell (i := j) (by omega)
          rw [Nat.zero_add] at h1
          rw [h1]
          congr 1
          unfold wv
          rw [List.take_of_length_le (by omega), List.getD_eq_getElem?_getD, List.getElem?_map, hx]
          rfl
        rw [ws_len, HR.out.2.2] at hJ
        have HJ : Hid (Calls Tryd.prog 87 #[.slice (some ⟨gb, 0, none⟩) (3 + (2 + 3)) gcap, .string ⟨#[32]⟩] wr fun e w' => e = .returned (.string ⟨(Lib.join ((ws g).map (·.data.toList)) [32]).toArray⟩) ∧ Below wr.heap.size wr w') := hJ
        have HB : Hid (Below w.heap.size w wr) := hb
        have hjl : (Lib.join ((ws g).map (·.data.toList)) [32]).length ≤ 400 := HR.out.1.joined
        have HL : Hid (lineB g = ⟨(Lib.join ((ws g).map (·.data.toList)) [32]).toArray⟩ ++ ⟨#[10]⟩) := rfl
        generalize Lib.join ((ws g).map (·.data.toList)) [32] = jl at *
        clear ho hnn hsg hb hxs hJ hsw hcap hgb
        go_wp2_with (go_at_call 87; refine HJ.out.mono ?_; rintro e w2 ⟨rfl, b2⟩; have HB2 : Hid (Below w.heap.size w w2) := box_step HB.out b2 (Nat.le_refl _); clear b2)
        go_ret
        exact ⟨by rw [HL.out]; rfl, HB2.out⟩
theorem iLine_any {g : Gl} {k : Value} {w : World} (R : Right g) (T : WTab w) (hr : RdRow w k g.n g.f) :
    Calls Tryd.prog 66 #[.agg #[.string g.s, .int .i64 g.kd, .int .i64 g.lo, .int .i64 g.hi, k, .float .f64 g.x]] w fun e w' => e = .returned (.string (lineB g)) ∧ Below w.heap.size w w' := by
  rcases R.kn with ⟨ek, en⟩ | ⟨ek, en⟩
  · obtain ⟨b, off, cap, rfl, hc⟩ := rd_some hr (by omega)
    rw [ek, en]
    exact iLine1 R T ek en (fun i hi => hc i (by omega))
  · obtain ⟨b, off, cap, rfl, hc⟩ := rd_some hr (by omega)
    rw [ek, en]
    exact iLine2 R T ek en (fun i hi => hc i (by omega))
end Go.Proofs.YtndfncjoknibaaaDoor
