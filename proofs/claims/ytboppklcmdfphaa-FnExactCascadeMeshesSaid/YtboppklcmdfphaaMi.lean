/- mapNumbers: the iterator over a map's numbers, row by row. -/
import Derived.RangeFuncNested
import Derived.RangeFuncBound
import Derived.RangeFuncCalls
import Derived.RangeFuncLeaves
import Derived.Shelf.Abstract
import Derived.Shelf.RegionOpen
import Derived.WalkKit
import Derived.OwnWalkIn
import Derived.TacticsInMore
import Derived.LoopNIn
import Derived.LoopIn
import Derived.Test.YtboppklcmdfphaaMods
namespace Go.Proofs.Ytboppklcmdfphaa
open Go.RowKit Go.Shelf
set_option linter.unusedVariables false
attribute [local go_sem] Oper.semAt_some
/-- A map of n rows of m numbers, its rows' slices in block b from off on, row i at rv i; the number in row i, column j is as ok says. -/
def Shp (ok : Nat → Nat → Int → Prop) (b off n m : Nat) (rv : Nat → Nat × Nat × Nat) (W : World) : Prop :=
  ∀ i, i < n → W.cell? ⟨b, off + i, none⟩ = some (.slice (some ⟨(rv i).1, (rv i).2.1, none⟩) m (rv i).2.2) ∧ ∀ j, j < m → ∃ x, W.cell? ⟨(rv i).1, (rv i).2.1 + j, none⟩ = some (.int .i64 x) ∧ ok i j x
theorem Shp.same {ok : Nat → Nat → Int → Prop} {b off n m : Nat} {rv : Nat → Nat × Nat × Nat} {W W' : World} (h : Shp ok b off n m rv W) (hk : ∀ a v, W.cell? a = some v → W'.cell? a = some v) : Shp ok b off n m rv W' :=
  fun i hi => ⟨hk _ _ (h i hi).1, fun j hj => let ⟨x, hx, ho⟩ := (h i hi).2 j hj; ⟨x, hk _ _ hx, ho⟩⟩
theorem Shp.later {ok : Nat → Nat → Int → Prop} {b off n m : Nat} {rv : Nat → Nat × Nat × Nat} {W W' : World} (h : Shp ok b off n m rv W) (hb : Below W.heap.size W W') : Shp ok b off n m rv W' :=
  h.same fun a v hv => (hb.cell (World.block_lt_of_cell? _ _ hv)).trans hv
/-- What the iterator hands out: a place within the map, and a number that may stand there. -/
abbrev At (ok : Nat → Nat → Int → Prop) (n m : Nat) := { t : Nat × Nat × Int // t.1 < n ∧ t.2.1 < m ∧ ok t.1 t.2.1 t.2.2 }
def encAt {ok : Nat → Nat → Int → Prop} {n m : Nat} (x : At ok n m) : Array Value := #[.agg #[.int .i64 (x.1.1 : Int), .int .i64 (x.1.2.1 : Int)], .int .i64 x.1.2.2]
def plc {ok : Nat → Nat → Int → Prop} {n m : Nat} (x : At ok n m) : Nat × Nat := (x.1.1, x.1.2.1)
/-- The first k places, row by row. -/
def plcs (m k : Nat) : List (Nat × Nat) := (List.range k).map fun q => (q / m, q % m)
theorem plcs_succ (m k : Nat) : plcs m (k + 1) = plcs m k ++ [(k / m, k % m)] := by simp [plcs, List.range_succ]
theorem plcs_length (m k : Nat) : (plcs m k).length = k := by simp [plcs]
theorem plc_at {m i j : Nat} (hj : j < m) : (i * m + j) / m = i ∧ (i * m + j) % m = j := by
  constructor
  · rw [Nat.mul_comm, Nat.mul_add_div (by omega), Nat.div_eq_of_lt hj, Nat.add_zero]
  · rw [Nat.mul_comm, Nat.mul_add_mod, Nat.mod_eq_of_lt hj]
set_option maxRecDepth 100000 in
set_option maxHeartbeats 4000000 in
theorem nums1_in (F : Fence) (k : Nat) (h102 : F.fn 118) (hro : F.round = none) (hk : 1 ≤ k) (l Bs b off n m cap : Nat) (ok : Nat → Nat → Int → Prop) (rv : Nat → Nat × Nat × Nat) (hn : n ≤ 1000) (hm : m ≤ 1000) (J Jx : List (At ok n m) → World → Prop)
    (hY : ∀ pre x W, J pre W → pre.length < n * m → YieldAt F (k - 1) Try.prog l (encAt x) W fun e W' =>
      (e = .returned (.bool true) ∧ J (pre ++ [x]) W' ∧ (Shp ok b off n m rv W → Shp ok b off n m rv W')) ∨ (e = .returned (.bool false) ∧ Jx (pre ++ [x]) W'))
    (W : World) (hBs : W.cell? ⟨Bs, 0, none⟩ = some (.slice (some ⟨b, off, none⟩) n cap)) (hS : Shp ok b off n m rv W) (h0 : J [] W) :
    CallsIn F k Try.prog 118 #[.func (.yield l) #[] #[], .pointer (some ⟨Bs, 0, none⟩)] W fun e W' => (∃ v, e = .returned v) ∧
      ((∃ ys : List (At ok n m), ys.map plc = plcs m (n * m) ∧ J ys W') ∨ (∃ pre, True ∧ Jx pre W')) := by
  refine callsIn_of_wp Try.func118 rfl h102 ?_ hro
  simp only [Try.ntmps118, List.size_toArray, List.length_cons, List.length_nil, Nat.reduceAdd, Nat.reduceSub, Array.replicate_succ, Array.replicate_zero, List.push_toArray, List.append_toArray, List.nil_append, List.cons_append]
  have HY : Hid (∀ pre x W, J pre W → pre.length < n * m → YieldAt F (k - 1) Try.prog l (encAt x) W fun e W' =>
      (e = .returned (.bool true) ∧ J (pre ++ [x]) W' ∧ (Shp ok b off n m rv W → Shp ok b off n m rv W')) ∨ (e = .returned (.bool false) ∧ Jx (pre ++ [x]) W')) := hY
  have HS : Hid (Shp ok b off n m rv W) := hS
  have HJ : Hid (J [] W) := h0
  clear hY hS h0
  gi_wp2
  gi_loopw [9] (fun c wr => ∃ (i : Nat) (pre : List (At ok n m)), i ≤ n ∧ c = .int .i64 i ∧ Hid (pre.map plc = plcs m (i * m) ∧ J pre wr ∧ Shp ok b off n m rv wr)) (fun c _ => n - (intOf c).toNat)
  case atStart => exact ⟨0, [], Nat.zero_le _, rfl, by simp [plcs], HJ.out, HS.out⟩
  case round =>
    obtain ⟨i, pre, hi, rfl, HP⟩ := hrel
    by_cases hin : i < n
    · have c1 := (HP.out.2.2 i hin).1
      gi_wp2
      gi_loopw [16] (fun c wx => ∃ (j : Nat) (q : List (At ok n m)), j ≤ m ∧ c = .int .i64 j ∧ Hid (q.map plc = plcs m (i * m + j) ∧ J q wx ∧ Shp ok b off n m rv wx)) (fun c _ => m - (intOf c).toNat)
      case atStart => exact ⟨0, pre, Nat.zero_le _, rfl, HP.out.1, HP.out.2.1, HP.out.2.2⟩
      case round =>
        obtain ⟨j, q, hj, rfl, HQ⟩ := hrel
        by_cases hjm : j < m
        · obtain ⟨x, hx, hox⟩ := (HQ.out.2.2 i hin).2 j hjm
          have hlen : q.length < n * m := by
            have e : q.length = i * m + j := by rw [← plcs_length m (i * m + j), ← HQ.out.1, List.length_map]
            have : (i + 1) * m ≤ n * m := Nat.mul_le_mul_right m hin
            rw [Nat.succ_mul] at this
            omega
          obtain ⟨fn, tmps, assign, body, hy, hR⟩ := HY.out q ⟨(i, j, x), hin, hjm, hox⟩ wr HQ.out.2.1 hlen
          dsimp only [encAt] at hy
          gi_wp2
          refine hR.mono ?_
          rintro e W3 (⟨rfl, hJ3, hk3⟩ | ⟨rfl, hJx3⟩)
          · have HN : Hid ((q ++ [(⟨(i, j, x), hin, hjm, hox⟩ : At ok n m)]).map plc = plcs m (i * m + (j + 1)) ∧ J (q ++ [(⟨(i, j, x), hin, hjm, hox⟩ : At ok n m)]) W3 ∧ Shp ok b off n m rv W3) :=
              ⟨by rw [List.map_append, HQ.out.1, ← Nat.add_assoc, plcs_succ]; simp [plc, plc_at hjm], hJ3, hk3 HQ.out.2.2⟩
            clear hJ3 hk3 hy hR
            gi_wp2
            go_roundw
            case rel => exact ⟨j + 1, _, by omega, by simp, HN⟩
            case measure => simp [intOf]; omega
          · clear hy hR
            gi_wp2
            refine bodyPost_ret (results_none rfl _ _ _) rfl ?_
            exact ⟨⟨_, rfl⟩, .inr ⟨_, trivial, hJx3⟩⟩
        · obtain rfl : j = m := by omega
          have HN : Hid (q.map plc = plcs j ((i + 1) * j) ∧ J q wr ∧ Shp ok b off n j rv wr) := ⟨by rw [Nat.succ_mul]; exact HQ.out.1, HQ.out.2⟩
          gi_wp2
          go_roundw
          case rel => exact ⟨i + 1, q, by omega, by simp, HN⟩
          case measure => simp [intOf]; omega
    · obtain rfl : i = n := by omega
      gi_wp2
      go_end0
      exact ⟨⟨_, rfl⟩, .inl ⟨pre, HP.out.1, HP.out.2.1⟩⟩
set_option maxHeartbeats 1000000 in
theorem nums_any (a : Option Addr) (n cap : Nat) (w : World) :
    Calls Try.prog 108 #[.slice a n cap] w fun e w' => e = .returned (.func (.func 118) #[] #[.pointer (some ⟨w.heap.size, 0, none⟩)]) ∧ w' = w.alloc (.cells #[.slice a n cap] 22) := by
  go_enter Try.func108, Try.ntmps108
  go_wp2
  go_ret
  exact ⟨rfl, rfl⟩
/-- The iterator's contract: all places, row by row. -/
theorem nums_stops (F : Fence) (k : Nat) (h102 : F.fn 118) (hro : F.round = none) (hk : 1 ≤ k) (Bs b off n m cap : Nat) (ok : Nat → Nat → Int → Prop) (rv : Nat → Nat × Nat × Nat) (hn : n ≤ 1000) (hm : m ≤ 1000) (w : World)
    (hBs : w.cell? ⟨Bs, 0, none⟩ = some (.slice (some ⟨b, off, none⟩) n cap)) (hS : Shp ok b off n m rv w) :
    SeqStopsK F k Try.prog 118 #[.pointer (some ⟨Bs, 0, none⟩)] (fun x : At ok n m => encAt x) (fun W W' => Shp ok b off n m rv W → Shp ok b off n m rv W') (fun ys => ys.map plc = plcs m (n * m)) (fun _ => True) (n * m) w :=
  fun l J Jx W hW _ _ hY h0 => nums1_in F k h102 hro hk l Bs b off n m cap ok rv hn hm J Jx hY W ((hW.cell (World.block_lt_of_cell? _ _ hBs)).trans hBs) (hS.later hW) h0
theorem shpK_t {ok : Nat → Nat → Int → Prop} {b off n m : Nat} {rv : Nat → Nat × Nat × Nat} {A B C : World} (h : Shp ok b off n m rv A → Shp ok b off n m rv B) (k : Shp ok b off n m rv B → Shp ok b off n m rv C) : Shp ok b off n m rv A → Shp ok b off n m rv C := fun x => k (h x)
theorem shpK_b {ok : Nat → Nat → Int → Prop} {b off n m : Nat} {rv : Nat → Nat × Nat × Nat} {B : Nat} (W : World) (l : Nat) (o o' : Obj) (_ : B ≤ l) (h : W.heap[l]? = some o) (hc : o.isCells = false) (_ : o.isWalk = false) : Shp ok b off n m rv W → Shp ok b off n m rv (W.putObj l o') :=
  fun hs => hs.same fun a v hv => cell_kept hv (grownBy_putObj' W l o') (fun r e => by cases e; exact ⟨o, h, hc⟩)
end Go.Proofs.Ytboppklcmdfphaa
