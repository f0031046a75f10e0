/- Tidying, drawn together: Rs, Rn, Ix, It, Tr, Ti, Tj, Ts, Sg, Sh, Sj. -/
import Derived.RangeFuncNested
import Derived.RangeFuncBound
import Derived.RangeFuncCalls
import Derived.RangeFuncLeaves
import Derived.RangeFuncWrites
import Derived.Shelf.Abstract
import Derived.TacticsIn
import Derived.TacticsInMore
import Derived.Test.YtinfbbbgfkaioaaLa
import Derived.OrdersIn
import Derived.Orders
import Derived.Test.YtinfbbbgfkaioaaGi
import Derived.WalkKit
import Derived.OwnWalkIn
import Derived.LoopNIn
import Derived.LoopIn
import Derived.Shelf.RegionOpen
import Derived.Deep.RegionHeld3
import Derived.Test.YtinfbbbgfkaioaaLr
import Derived.Test.YtinfbbbgfkaioaaSm
import Derived.RangeFuncBox
import Derived.Test.YtinfbbbgfkaioaaTx
import Derived.Deep.AppendLies
import Derived.Deep.RegionLaw
import Derived.Test.YtinfbbbgfkaioaaLm
import Derived.Test.YtinfbbbgfkaioaaGc
section
namespace Go.Proofs.Ytinfbbbgfkaioaa
open Go.RowKit
set_option linter.unusedVariables false
/-- What an iterator that keeps its state in old memory promises: what B says of blocks that are no cells, from n0 on, it keeps if each round does; I0 stands at the call, I1 ahead of each round, I2 behind it, E at the end. -/
def Runs {α : Type} (F : Fence) (n : Nat) (P : Program) (g : Nat) (lb : Array Value) (encs : α → Array Value) (n0 : Nat) (I0 : World → Prop) (I1 : List α → α → World → Prop) (I2 : List α → World → Prop) (E : List α → World → Prop) : Prop :=
  ∀ (l : Nat) (B : World → Prop) (W : World), (∀ X Y, KeepsFrom n0 X Y → B X → B Y) → I0 W → B W →
    (∀ pre x X, I1 pre x X → B X → YieldAt F (n - 1) P l (encs x) X fun e Y => e = .returned (.bool true) ∧ I2 (pre ++ [x]) Y ∧ B Y) →
    CallsIn F n P g (#[.func (.yield l) #[] #[]] ++ lb) W fun e Y => (∃ v, e = .returned v) ∧ ∃ xs, E xs Y ∧ B Y
variable {F : Fence} {n : Nat} {P : Program}
theorem range_runs {α : Type} {g : Operand} {ps : Array Tmp} {assign body : Code} {Q : Exit → Act → World → Prop} {a : Act} {w : World}
    (hro : F.round = none) (h1 : 1 ≤ n) {gf : Nat} {lb : Array Value} (hg : a.eval g = .func (.func gf) #[] lb) (hFg : F.fn gf) (eg : ∀ args w, (callFunc gf args).run P w = .ok (.enter gf args) w)
    {encs : α → Array Value} (hps : ∀ x, (encs x).size = ps.size) {I0 : World → Prop} {I1 : List α → α → World → Prop} {I2 E : List α → World → Prop}
    (hit : Runs F (n - 1) P gf lb encs w.heap.size I0 I1 I2 E)
    (h0 : ∀ o o', I0 ((w.alloc o).alloc o'))
    (h2 : ∀ xs X l o', I2 xs X → w.heap.size < l → (∃ r, X.heap[l]? = some (.loop r)) → I2 xs (X.putObj l o'))
    (hround : ∀ l pre x X K, w.heap.size < l → (∃ r, X.heap[l]? = some (.loop r)) → I1 pre x X → (∀ a1 X1, KeepsFrom w.heap.size X X1 →
        (∀ r, body.wpIn (F.inRound l) (n - 1 - 1) P (fun e a2 X2 => e = .normal ∧ KeepsFrom w.heap.size (X1.putObj l (.loop r)) X2 ∧ I2 (pre ++ [x]) X2) a1 (X1.putObj l (.loop r))) → K a1 X1) →
      assign.wpIn (F.inRound l) (n - 1 - 1) P (Exit.then K (fun _ _ _ => False)) { tmps := (ps.zip (encs x)).foldl (fun t (p, v) => t.setIfInBounds p v) a.tmps, defers := [] } X)
    (hend : ∀ (l : Nat) (o : Obj) (xs : List α) (X : World), w.heap.size < l → E xs X → (∃ r, X.heap[l]? = some (.loop r)) → X.heap[w.heap.size]? = some (.deferred (some [])) →
      Q .normal { a with defers := { target := .collected w.heap.size, args := #[] } :: a.defers } (X.putObj l o)) :
    (Code.rangeFunc g ps assign body).wpIn F n P Q a w := by
  refine wpIn_rangeFunc fun fn hfn => ?_
  rw [hro]
  let rdy : Loop := { state := .ready, pending := none, fn := fn, tmps := a.tmps, params := ps, assign := assign, body := body, defers := w.heap.size }
  let W1 : World := (w.alloc (.deferred (some []))).alloc (.loop rdy)
  have hl1 : W1.heap[w.heap.size + 1]? = some (.loop rdy) := by
    have := World.alloc_heap_new (w.alloc (.deferred (some []))) (.loop rdy)
    rwa [World.size_alloc] at this
  have hd1 : W1.heap[w.heap.size]? = some (.deferred (some [])) := (Below.heap_alloc _ _ _ (by simp)).trans (World.alloc_heap_new w _)
  refine ⟨w.heap.size + 1, [{ target := .collected w.heap.size, args := #[] }], W1, { target := .fn (.func gf) lb, args := #[.func (.yield (w.heap.size + 1)) #[] #[]] }, W1, gf, #[.func (.yield (w.heap.size + 1)) #[] #[]] ++ lb, W1, run_enterLoop_outer _ _ _ _ _, ?_, ?_, ?_, fun _ => h1, ?_⟩
  · simp only [resolve, hg]
    simp [go_sem]
  · intro f' hf'
    simp [Target.leads] at hf'
    subst hf'
    exact hFg
  · simp [invoke, go_sem, eg]
  · refine (hit (w.heap.size + 1) (fun X => X.heap[w.heap.size + 1]? = some (.loop rdy) ∧ X.heap[w.heap.size]? = some (.deferred (some []))) W1
      (fun X Y hk hb => ⟨hk.same _ _ (by omega) hb.1 rfl, hk.same _ _ (Nat.le_refl _) hb.2 rfl⟩) (h0 _ _) ⟨hl1, hd1⟩ ?_).mono ?_
    · rintro pre x X hi ⟨hl, hd⟩
      refine ⟨fn, _, assign, body, run_yield (P := P) (args := encs x) hl (hps x), roundIn_of_wpIn hfn (hround _ pre x X _ (by omega) ⟨_, hl⟩ hi ?_)⟩
      intro a1 X1 hk1 hb
      have hl2 := hk1.same _ _ (by omega) hl rfl
      have hd2 := hk1.same _ _ (Nat.le_refl _) hd rfl
      have hlt : w.heap.size + 1 < X1.heap.size := (Array.getElem?_eq_some_iff.1 hl2).1
      refine ⟨_, run_beginRound hl2 rfl, wpIn_mono (hb _) ?_⟩
      rintro e a2 X2 ⟨rfl, hk3, hi3⟩
      have hl3 := hk3.same _ _ (by omega) (World.putObj_heap_same hlt) rfl
      have hd3 := hk3.same _ _ (Nat.le_refl _) ((World.putObj_heap_other (by omega)).trans hd2) rfl
      have hlt3 : w.heap.size + 1 < X2.heap.size := (Array.getElem?_eq_some_iff.1 hl3).1
      exact ⟨_, _, run_endRound (P := P) none hl3, rfl, h2 _ _ _ _ hi3 (by omega) ⟨_, hl3⟩, World.putObj_heap_same hlt3, (World.putObj_heap_other (by omega)).trans hd3⟩
    · rintro e Y ⟨⟨v, rfl⟩, xs, hE, hl, hd⟩
      exact ⟨none, _, run_endLoop (P := P) hl (by simp [rdy]), hend _ _ xs _ (by omega) hE ⟨_, hl⟩ hd⟩
end Go.Proofs.Ytinfbbbgfkaioaa
end
section
namespace Go.Proofs.Ytinfbbbgfkaioaa
open Go.RowKit
section
variable {P : Program} {ops : Array Oper} {Q : Exit → Act → World → Prop} {l n : Nat}
theorem op_round {o : Oper} {a : Act} {w : World} {K K' : Act → World → Prop} (hd : ∀ c, o.op ≠ .defer c) (hK : ∀ a w, K a w → K' a w) (h : o.wp P a w K Q) : o.wpIn (Fence.wide.inRound l) n P a w K' Q := by
  unfold Oper.wp at h
  unfold Oper.wpIn
  refine ⟨fun _ _ => trivial, ?_⟩
  rw [Oper.semAt_eq _ _ _ hd]
  generalize (execOp a.eval o).run P w = r at *
  cases r with
  | ok x w' =>
    cases x <;> simp only [Oper.upon, Oper.uponIn] at h ⊢
    · exact hK _ _ h
    · exact hK _ _ h
    · refine ⟨fun hh => by simp [Fence.inRound, Fence.wide] at hh, CallsIn.inRound l (callsIn_wide.2 (Calls.mono h ?_))⟩
      intro e w'' he
      cases e
      · exact hK _ _ he
      · exact he
      · exact he
    · exact hK _ _ h
    · refine ⟨fun hh => by simp [Fence.inRound, Fence.wide] at hh, fun c cs _ => ?_⟩
      obtain ⟨v, w', hr, hs⟩ := h c cs
      exact ⟨v, w', hK _ _ hr, stepsIn_wide.2 hs⟩
  | halt x w' => cases x <;> simp only [Oper.upon, Oper.uponIn] at h ⊢ <;> exact h
/-- No operation of the list is a defer. -/
def calmB (ops : List Oper) : Bool := ops.all fun o => match o.op with | .defer _ => false | _ => true
theorem calm_of {ops : List Oper} (h : calmB ops = true) {o : Oper} (ho : o ∈ ops) : ∀ c, o.op ≠ .defer c := by
  intro c hc
  have := List.all_eq_true.1 h o ho
  simp [hc] at this
theorem wpOp_round (hd : calmB ops.toList = true) (hQ : ¬LetsOut Q) {i : Nat} {a : Act} {w : World} {K K' : Act → World → Prop} (hK : ∀ a w, K a w → K' a w) (h : wpOp P ops Q i K a w) : wpOpIn (Fence.wide.inRound l) n P ops Q i K' a w := by
  unfold wpOp at h
  unfold wpOpIn
  cases ho : ops[i]? with
  | none => simp only [ho] at h ⊢; exact hK _ _ h
  | some o =>
    simp only [ho] at h ⊢
    split at h
    · rename_i hw
      simp only [hw, if_true]
      rcases h with h | ⟨_, h⟩
      · refine op_round (calm_of hd ?_) hK h
        exact Array.mem_toList_iff.2 (Array.mem_of_getElem? ho)
      · exact absurd h hQ
    · rename_i hw
      simp only [hw]
      exact ⟨fun _ _ => trivial, hK _ _ h⟩
theorem wpAny_round (hd : calmB ops.toList = true) (hQ : ¬LetsOut Q) : ∀ (fuel : Nat) (listed : Array Bool) (a : Act) (w : World), wpAny P .any ops Q fuel listed a w → wpAnyIn (Fence.wide.inRound l) n P .any ops Q fuel listed a w
  | 0, _, _, _, h => h
  | fuel + 1, _, _, _, h => ⟨h.1, fun i hi => wpOp_round hd hQ (fun a w hh => wpAny_round hd hQ fuel _ a w hh) (h.2 i hi)⟩
theorem region_round {id : Nat} {a : Act} {w : World} (hm : P.follows .mixedOrders = true) (hd : calmB ops.toList = true) (hQ : ¬LetsOut Q)
    (h : wpAny P .any ops Q ops.size (Array.replicate ops.size false) a { w with drawn := w.drawn + 1 }) : (Code.region id ops true).wpIn (Fence.wide.inRound l) n P Q a w :=
  wpIn_region_any hm (wpAny_round hd hQ _ _ _ _ h)
theorem wpList_round {L : List Oper} (hQ : ¬LetsOut Q) : ∀ (ops' : List Oper), calmB ops' = true → ∀ (a : Act) (w : World), wpList P L.toArray Q ops' a w → wpListIn (Fence.wide.inRound l) n P L.toArray Q ops' a w
  | [], _, _, _, h => h
  | o :: rest, hd, a, w, h => by
    have hd1 : calmB rest = true := by simp [calmB] at hd ⊢; exact hd.2
    simp only [wpList, wpListIn] at h ⊢
    split at h
    · rename_i hw
      simp only [hw, if_true]
      rcases h with h | ⟨_, h⟩
      · exact op_round (calm_of hd (by simp)) (fun a w hh => wpList_round hQ rest hd1 a w hh) h
      · exact absurd h hQ
    · rename_i hw
      simp only [hw]
      exact ⟨fun _ _ => trivial, wpList_round hQ rest hd1 _ _ h⟩
theorem region_round_lit {id : Nat} {L : List Oper} {a : Act} {w : World} (hd : calmB L = true) (hQ : ¬LetsOut Q) (h : wpList P L.toArray Q L a w) : (Code.region id L.toArray false).wpIn (Fence.wide.inRound l) n P Q a w :=
  wpIn_region_lit (wpList_round hQ L hd a w h)
theorem round_lastA {id r k : Nat} {l : List Oper} {st : Oper} {a : Act} {w : World} (B : Nat) (hm : P.follows .mixedOrders = true) (hB : Region.lexB .any l.toArray = true) (hk : LastOk l st)
    (h : Nonempty (Kept B w) → wpQuiet P l.toArray (fun w' => ∃ x : Kept B w, w' = x.w) (fun a' => ∀ w', (∃ x : Kept B w, w' = x.w) → wpList P (l ++ [st]).toArray Q [st] a' w') l a) (hcalm : calmB (l ++ [st]) = true) (hQ : ¬LetsOut Q) : (Code.region id (l ++ [st]).toArray true).wpIn (Fence.wide.inRound r) k P Q a w := by
  simp only [Region.lexB, Bool.and_eq_true] at hB
  have h' := h ⟨⟨w, Below.refl B w⟩⟩
  have hq := wpAnyQ_lex (C := fun w' => ∃ x : Kept B w, w' = x.w) (md := .any) hB.1 l 0 (Array.replicate l.length false) a (by simp) (by simpa using hB.2) h'
  have hd : ∃ x : Kept B w, w.drew = x.w := ⟨⟨w.drew, (Below.refl B w).drew⟩, rfl⟩
  have hw := wpAny_of_quiet (Q' := Exit.then (fun a' w' => wpList P (l ++ [st]).toArray Q [st] a' w') Q) (fun a' w' hw' hh => hh w' hw') l.length (Array.replicate l.length false) a w.drew hd hq
  refine region_round hm (by simpa using hcalm) hQ ?_
  have hz := wpAny_last hk (F := fun a' w' => wpList P (l ++ [st]).toArray Q [st] a' w') (fun a' w' hh => ?_) l.length (Array.replicate l.length false) a w.drew (by simp) hw
  · have e : (Array.replicate (l ++ [st]).toArray.size false) = (Array.replicate l.length false).push false := by simp [Array.replicate_succ]
    rw [e]
    simpa using hz
  · unfold wpOp
    rw [at_last]
    simpa [wpList] using hh
theorem round_last {L : List Oper} {id r k : Nat} {l : List Oper} {st : Oper} {a : Act} {w : World} (B : Nat) (hm : P.follows .mixedOrders = true) (hst : L.getLast? = some st) (hl : L.dropLast = l) (hB : Region.lexB .any l.toArray = true) (hk : LastOk l st)
    (h : Nonempty (Kept B w) → wpQuiet P l.toArray (fun w' => ∃ x : Kept B w, w' = x.w) (fun a' => ∀ w', (∃ x : Kept B w, w' = x.w) → wpList P (l ++ [st]).toArray Q [st] a' w') l a) (hcalm : calmB L = true) (hQ : ¬LetsOut Q) : (Code.region id L.toArray true).wpIn (Fence.wide.inRound r) k P Q a w := by
  have e : L = l ++ [st] := by
    obtain ⟨ys, rfl⟩ := List.getLast?_eq_some_iff.1 hst
    rw [List.dropLast_concat] at hl
    rw [hl]
  rw [e]
  exact round_lastA B hm hB hk h (e ▸ hcalm) hQ
end
end Go.Proofs.Ytinfbbbgfkaioaa
end
section
namespace Go.Proofs.Ytinfbbbgfkaioaa
open Go.RowKit
set_option linter.unusedVariables false
/-- The lights behind slides (light, slot). -/
def apl (L : Nat → Li) (xs : List (Nat × Nat)) : Nat → Li := xs.foldl (fun M x => Nt.mov M x.1 (x.2 : Int)) L
theorem apl_snoc (L : Nat → Li) (xs : List (Nat × Nat)) (x : Nat × Nat) : apl L (xs ++ [x]) = Nt.mov (apl L xs) x.1 (x.2 : Int) := by unfold apl; rw [List.foldl_append]; rfl
theorem apl_id (L : Nat → Li) (xs : List (Nat × Nat)) (i : Nat) : (apl L xs i).id = (L i).id := by
  unfold apl
  induction xs generalizing L with
  | nil => rfl
  | cons x xs ih => exact (ih _).trans (Nt.mov_id _ _ _ _)
/-- A slide as it is told. -/
def tell (L : Nat → Li) (x : Nat × Nat) : Int × Int := ((L x.1).id, ((x.2 : Nat) : Int))
/-- State s is what slides xs make of L. -/
def Sy (L : Nat → Li) (s : Nt.Td) (xs : List (Nat × Nat)) : Prop := s.L = apl L xs ∧ s.sl = xs.map (tell L)
theorem Sy.nil (L : Nat → Li) : Sy L ⟨L, []⟩ [] := ⟨rfl, rfl⟩
theorem Sy.go {L : Nat → Li} {n : Nat} {s : Nt.Td} {xs : List (Nat × Nat)} (h : Sy L s xs) {i : Nat} (hl : Nt.lwt n s.L i < (s.L i).fi.toNat) : Sy L (Nt.stp2 n s i) (xs ++ [(i, Nt.lwt n s.L i)]) := by
  rw [Nt.stp_go hl]
  refine ⟨?_, ?_⟩
  · rw [apl_snoc, ← h.1]
  · show s.sl ++ [((s.L i).id, _)] = _
    rw [List.map_append, ← h.2, h.1]
    show _ = _ ++ [((L i).id, _)]
    rw [apl_id]
/-- All first slots of a list in memory together. -/
def wsum (lb : Nat) : Nat → World → Nat
  | 0, _ => 0
  | n + 1, W => wsum lb n W + (match W.cell? ⟨lb, n * 6 + 4, none⟩ with | some v => (intOf v).toNat | none => 0)
theorem wsum_is {B lb : Nat} {PB PC : Nat → Nat} {L : Nat → Li} {W : World} {N : Nat} (h : Cpy B W lb N PB PC L) : ∀ {n : Nat}, n ≤ N → wsum lb n W = Nt.fsum L n
  | 0, _ => rfl
  | n + 1, hn => by
    have c := h.cell (show n < N by omega) (show 4 < 6 by omega)
    show wsum lb n W + (match W.cell? ⟨lb, n * 6 + 4, none⟩ with | some v => (intOf v).toNat | none => 0) = Nt.fsum L n + (L n).fi.toNat
    rw [wsum_is h (by omega), c]
    rfl
/-- Only rows and the list of lights have changed, and what is new. -/
def Wr (bs : Nat → Nat) (nf lb : Nat) (X Y : World) : Prop := Below 0 X Y ∧ ∀ k, k < X.heap.size → (∀ i, i < nf → k ≠ bs i) → k ≠ lb → Y.heap[k]? = X.heap[k]?
theorem Wr.refl (bs : Nat → Nat) (nf lb : Nat) (X : World) : Wr bs nf lb X X := ⟨Below.refl _ _, fun _ _ _ _ => rfl⟩
theorem Wr.of_below {bs : Nat → Nat} {nf lb : Nat} {X Y : World} (h : Below X.heap.size X Y) : Wr bs nf lb X Y := ⟨h.mono (Nat.zero_le _), fun k hk _ _ => h.block k hk⟩
theorem Wr.trans {bs : Nat → Nat} {nf lb : Nat} {X Y Z : World} (h : Wr bs nf lb X Y) (k : Wr bs nf lb Y Z) : Wr bs nf lb X Z := ⟨h.1.trans k.1, fun i h1 h2 h3 => (k.2 i (Nat.lt_of_lt_of_le h1 h.1.size) h2 h3).trans (h.2 i h1 h2 h3)⟩
theorem Wr.drew {bs : Nat → Nat} {nf lb : Nat} {X Y : World} (h : Wr bs nf lb X Y) : Wr bs nf lb X Y.drew := ⟨h.1.drew, h.2⟩
theorem Wr.drewN {bs : Nat → Nat} {nf lb : Nat} {X Y : World} (h : Wr bs nf lb X Y) (q : Nat) : Wr bs nf lb X (Y.drewN q) := ⟨below_drewN h.1 q, h.2⟩
/-- Rows, lights M and the two boxes that hold them. -/
structure Sta (lo hi B g nf S lb n : Nat) (bs PB PC : Nat → Nat) (Bl Br cap lc : Nat) (M : Nat → Li) (W : World) : Prop where
  tb : Tb lo hi W g bs nf S (fun f s => Nt.bk M n f s)
  cp : Cpy B W lb n PB PC M
  bl : Blk W Bl #[.slice (some ⟨lb, 0, none⟩) n lc] 30
  br : Blk W Br #[.slice (some ⟨g, 0, none⟩) nf cap] 101
namespace Sta
variable {lo hi B g nf S lb n : Nat} {bs PB PC : Nat → Nat} {Bl Br cap lc : Nat} {M : Nat → Li} {W W' : World}
theorem later (h : Sta lo hi B g nf S lb n bs PB PC Bl Br cap lc M W) (hb : Below W.heap.size W W') : Sta lo hi B g nf S lb n bs PB PC Bl Br cap lc M W' := ⟨h.tb.later hb, h.cp.later hb, h.bl.old hb, h.br.old hb⟩
theorem keeps {n0 : Nat} (h : Sta lo hi B g nf S lb n bs PB PC Bl Br cap lc M W) (hw : Wr bs nf lb W W') : KeepsFrom n0 W W' :=
  ⟨hw.1.size, fun k o _ hk ho => (hw.2 k (Array.getElem?_eq_some_iff.1 hk).1 (fun i hi' e => by
    obtain ⟨c, hc, _⟩ := h.tb.row i hi'
    rw [← e, hk] at hc
    cases hc
    cases ho) (fun e => by
    obtain ⟨c, hc, _⟩ := h.cp.2.1
    rw [← e, hk] at hc
    cases hc
    cases ho)).trans hk⟩
end Sta
end Go.Proofs.Ytinfbbbgfkaioaa
end
section
namespace Go.Proofs.Ytinfbbbgfkaioaa
open Go.RowKit Go.Shelf
set_option linter.unusedVariables false
set_option linter.unusedSimpArgs false
attribute [local go_sem] Oper.semAt_some
def encT (L : Nat → Li) (x : Nat × Nat) : Array Value := #[.agg #[.int .i64 (L x.1).id, .int .i64 ((x.2 : Nat) : Int)]]
set_option maxHeartbeats 1000000 in
theorem slides_any (a b : Value) (hw : ∃ o n c, a = .slice o n c) (hw2 : ∃ o n c, b = .slice o n c) (w : World) :
    Calls Try.prog 75 #[a, b] w fun e w' => e = .returned (.func (.func 99) #[] #[.pointer (some ⟨w.heap.size + 1, 0, none⟩), .pointer (some ⟨w.heap.size, 0, none⟩)]) ∧ w' = (w.alloc (.cells #[a] 101)).alloc (.cells #[b] 30) := by
  obtain ⟨o, n, c, rfl⟩ := hw
  obtain ⟨o2, n2, c2, rfl⟩ := hw2
  go_enter Try.func75, Try.ntmps75
  go_wp2
  go_ret
  exact ⟨rfl, rfl⟩
set_option maxRecDepth 100000 in
set_option maxHeartbeats 8000000 in
theorem its_runs {nodes slots : Int} {F : Nat → Fb} {lo hi B g nf S lb n : Nat} {bs PB PC : Nat → Nat} {Bl Br cap lc : Nat} {L : Nat → Li} (hO : Nt.AllOk nodes slots nf F n L) (hn40 : n ≤ 40) (hS : slots.toNat = S) (hS64 : S ≤ 64) (hnf : nf ≤ 14) (hiB : hi ≤ B) (hBl : Bl ≠ lb) (hBr : Br ≠ lb) (hBlr : ∀ i, i < nf → Bl ≠ bs i) (hBrr : ∀ i, i < nf → Br ≠ bs i) (n0 : Nat)
    (C : List (Nat × Nat) → World → Prop) (hC : ∀ xs X Y, C xs X → Wr bs nf lb X Y → C xs Y) :
    Runs Fence.wide 5 Try.prog 99 #[.pointer (some ⟨Bl, 0, none⟩), .pointer (some ⟨Br, 0, none⟩)] (encT L) n0 (fun W => Sta lo hi B g nf S lb n bs PB PC Bl Br cap lc L W ∧ C [] W) (fun pre x W => Sta lo hi B g nf S lb n bs PB PC Bl Br cap lc (apl L (pre ++ [x])) W ∧ C pre W ∧ pre.length ≤ Nt.fsum L n) (fun xs W => Sta lo hi B g nf S lb n bs PB PC Bl Br cap lc (apl L xs) W ∧ C xs W)
      (fun xs W => Sy L (Nt.fin n L) xs ∧ Sta lo hi B g nf S lb n bs PB PC Bl Br cap lc (apl L xs) W ∧ C xs W) := by
  intro l Bk W hBk hI0 hB0 hY
  have HY : Hid (∀ pre x X, (Sta lo hi B g nf S lb n bs PB PC Bl Br cap lc (apl L (pre ++ [x])) X ∧ C pre X ∧ pre.length ≤ Nt.fsum L n) → Bk X → YieldAt Fence.wide 4 Try.prog l (encT L x) X fun e Y => e = .returned (.bool true) ∧ (Sta lo hi B g nf S lb n bs PB PC Bl Br cap lc (apl L (pre ++ [x])) Y ∧ C (pre ++ [x]) Y) ∧ Bk Y) := hY
  have HO : Hid (Nt.AllOk nodes slots nf F n L ∧ (∀ X Y, KeepsFrom n0 X Y → Bk X → Bk Y) ∧ (∀ xs X Y, C xs X → Wr bs nf lb X Y → C xs Y)) := ⟨hO, hBk, hC⟩
  have HI : Hid (Sta lo hi B g nf S lb n bs PB PC Bl Br cap lc L W ∧ C [] W ∧ Bk W) := ⟨hI0.1, hI0.2, hB0⟩
  have HNE : Hid (Bl ≠ lb ∧ Br ≠ lb ∧ (∀ i, i < nf → Bl ≠ bs i) ∧ (∀ i, i < nf → Br ≠ bs i)) := ⟨hBl, hBr, hBlr, hBrr⟩
  clear hY hO hBk hC hI0 hB0 hBl hBr hBlr hBrr
  have hnI : (n : Int) ≤ 40 := by omega
  refine callsIn_of_wp Try.func99 rfl trivial ?_ rfl
  simp only [Try.ntmps99, List.size_toArray, List.length_cons, List.length_nil, Nat.reduceAdd, Nat.reduceSub, Array.replicate_succ, Array.replicate_zero, List.push_toArray, List.append_toArray, List.nil_append, List.cons_append]
  refine wpIn_wide.2 ?_
  go_wp2_with fail
  go_loopw [4] (fun f wr => ∃ (b : Bool) (r : Nat) (xs : List (Nat × Nat)), f = .bool b ∧ Hid (Sy L (Nt.rds n r ⟨L, []⟩) xs ∧ (b = false → Nt.pss n (Nt.rds n r ⟨L, []⟩) n = Nt.rds n r ⟨L, []⟩) ∧ Sta lo hi B g nf S lb n bs PB PC Bl Br cap lc (apl L xs) wr ∧ C xs wr ∧ Bk wr)) (fun f wr => 2 * wsum lb n wr + (match f with | .bool true => 1 | _ => 0))
  case atStart => exact ⟨true, 0, [], rfl, Sy.nil L, fun h => absurd h (by decide), HI.out.1, HI.out.2.1, HI.out.2.2⟩
  case round =>
    obtain ⟨b, r, xs, rfl, HR⟩ := hrel
    cases b with
    | false =>
      have HE : Hid (Sy L (Nt.fin n L) xs) := by rw [← Nt.fin_is (HR.out.2.1 rfl)]; exact HR.out.1
      go_wp2
      go_end0
      first | exact ⟨⟨_, rfl⟩, ⟨xs, HE.out, HR.out.2.2.1, HR.out.2.2.2.1⟩, HR.out.2.2.2.2⟩ | exact ⟨⟨xs, HE.out, HR.out.2.2.1, HR.out.2.2.2.1⟩, HR.out.2.2.2.2⟩
    | true =>
      obtain ⟨s, hs⟩ : ∃ s, s = Nt.rds n r ⟨L, []⟩ := ⟨_, rfl⟩
      have HS : Hid (s = Nt.rds n r ⟨L, []⟩ ∧ Nt.AllOk nodes slots nf F n s.L) := ⟨hs, by rw [hs]; exact Nt.rds_ok HO.out.1⟩
      have c1 := HR.out.2.2.1.bl.cell (j := 0) (v := .slice (some ⟨lb, 0, none⟩) n lc) rfl
      obtain ⟨w0, hw0⟩ : ∃ w0, w0 = wr := ⟨_, rfl⟩
      have HW0 : Hid (wsum lb n w0 = Nt.fsum s.L n) := by show _ = _; rw [hw0, wsum_is HR.out.2.2.1.cp (Nat.le_refl _), hs, HR.out.1.1]
      have H0 : Hid (Sy L s xs ∧ Sta lo hi B g nf S lb n bs PB PC Bl Br cap lc (apl L xs) wr ∧ C xs wr ∧ Bk wr) := ⟨by rw [hs]; exact HR.out.1, HR.out.2.2⟩
      rw [← hw0] at H0 c1 ⊢
      clear HR hs hw0
      go_wp2_with fail
      clear c1
      go_loopw [4, 10] (fun f i wr => ∃ (b : Bool) (k : Nat) (ys : List (Nat × Nat)), k ≤ n ∧ i = .int .i64 k ∧ f = .bool b ∧ Hid (Sy L (Nt.pss n s k) ys ∧ (b = false → Nt.pss n s k = s) ∧ (b = true → Nt.fsum (Nt.pss n s k).L n < Nt.fsum s.L n) ∧ Sta lo hi B g nf S lb n bs PB PC Bl Br cap lc (apl L ys) wr ∧ C ys wr ∧ Bk wr)) (fun _ i _ => n - (intOf i).toNat)
      case atStart => exact ⟨false, 0, xs, Nat.zero_le _, rfl, rfl, H0.out.1, fun _ => rfl, fun h => absurd h (by decide), H0.out.2⟩
      case round =>
        obtain ⟨b, k, ys, hk, rfl, rfl, HK⟩ := hrel
        by_cases hkn : k < n
        · have hkI : (k : Int) < n := by omega
          have hOk : Nt.AllOk nodes slots nf F n (apl L ys) := by rw [← HK.out.1.1]; exact Nt.pss_ok HS.out.2 hk
          have o := hOk.ok k hkn
          have f0 := o.f0
          have w1 := o.w1
          have tp := o.top
          have few := o.few
          have fibs : ∀ j, j < (apl L ys k).np → 0 ≤ (apl L ys k).p j ∧ (apl L ys k).p j < (nf : Int) := fun j hj => o.fib hj
          have HQ : Hid (Nt.AllOk nodes slots nf F n (apl L ys)) := hOk
          have STA := HK.out.2.2.2.1
          have cc := fun j hj => STA.cp.cell (j := j) hkn hj
          have hpath := (STA.cp.2.2 k hkn).2
          have hLw : Nt.lwt n (apl L ys) k = Nt.lowR (fun f s => Nt.bk (apl L ys) n f s) (apl L ys k).p (apl L ys k).np (apl L ys k).id (apl L ys k).fi.toNat := rfl
          have hle := Nt.lwt_le n (apl L ys) k
          obtain ⟨M, hM⟩ : ∃ M, M = apl L ys := ⟨_, rfl⟩
          have HMM : Hid (M = apl L ys) := hM
          rw [← hM] at HQ STA cc hpath hLw hle f0 w1 tp few fibs
          obtain ⟨t, ht⟩ : ∃ t, t = Nt.lwt n M k := ⟨_, rfl⟩
          have HT : Hid (t = Nt.lwt n M k) := ht
          rw [← ht] at hLw hle
          obtain ⟨x, hx⟩ : ∃ x, x = M k := ⟨_, rfl⟩
          have HX : Hid (x = M k) := hx
          rw [← hx] at hpath hLw hle f0 w1 tp few fibs
          have d0 := cc 0 (by omega)
          have d1 := cc 1 (by omega)
          have d2 := cc 2 (by omega)
          have d3 := cc 3 (by omega)
          have d4 := cc 4 (by omega)
          have d5 := cc 5 (by omega)
          rw [← hx] at d0 d1 d2 d3 d4 d5
          simp only [lcell, Nat.add_zero] at d0 d1 d2 d3 d4 d5
          have b1 := STA.bl.cell (j := 0) (v := .slice (some ⟨lb, 0, none⟩) n lc) rfl
          have b2 := STA.br.cell (j := 0) (v := .slice (some ⟨g, 0, none⟩) nf cap) rfl
          have e1 := STA.bl.lt
          have e2 := STA.br.lt
          have e3 := STA.cp.2.1.lt
          have SH : Hid (Sta lo hi B g nf S lb n bs PB PC Bl Br cap lc M wr) := STA
          have HLo : ∀ X : Kept wr.heap.size wr, Calls Try.prog 74 #[.slice (some ⟨g, 0, none⟩) nf cap, .agg #[.int .i64 x.id, .int .i64 x.fr, .int .i64 x.tt, .slice (some ⟨PB k, 0, none⟩) x.np (PC k), .int .i64 x.fi, .int .i64 x.wd]] X.w fun e w' => e = .returned (.int .i64 (t : Nat)) ∧ Below X.w.heap.size X.w w' := fun X => by
            rw [hLw]
            exact lowest_any (STA.tb.later X.h) x x.fi.toNat (by omega) (hpath.rd.later X.h) fibs (by omega) hS64 (by omega) (by omega)
          have q1 : ∀ X : Kept wr.heap.size wr, X.w.cell? ⟨Bl, 0, none⟩ = some (.slice (some ⟨lb, 0, none⟩) n lc) := fun X => X.cell e1 b1
          have q2 : ∀ X : Kept wr.heap.size wr, X.w.cell? ⟨Br, 0, none⟩ = some (.slice (some ⟨g, 0, none⟩) nf cap) := fun X => X.cell e2 b2
          have q3 : ∀ X : Kept wr.heap.size wr, X.w.cell? ⟨lb, k * 6, none⟩ = some (.int .i64 x.id) := fun X => X.cell e3 d0
          have q4 : ∀ X : Kept wr.heap.size wr, X.w.cell? ⟨lb, k * 6 + 1, none⟩ = some (.int .i64 x.fr) := fun X => X.cell e3 d1
          have q5 : ∀ X : Kept wr.heap.size wr, X.w.cell? ⟨lb, k * 6 + 2, none⟩ = some (.int .i64 x.tt) := fun X => X.cell e3 d2
          have q6 : ∀ X : Kept wr.heap.size wr, X.w.cell? ⟨lb, k * 6 + 3, none⟩ = some (.slice (some ⟨PB k, 0, none⟩) x.np (PC k)) := fun X => X.cell e3 d3
          have q7 : ∀ X : Kept wr.heap.size wr, X.w.cell? ⟨lb, k * 6 + 4, none⟩ = some (.int .i64 x.fi) := fun X => X.cell e3 d4
          have q8 : ∀ X : Kept wr.heap.size wr, X.w.cell? ⟨lb, k * 6 + 5, none⟩ = some (.int .i64 x.wd) := fun X => X.cell e3 d5
          clear d0 d1 d2 d3 d4 d5 b1 b2 e1 e2 e3 STA cc hpath hM ht hx hLw fibs o hOk few
          go_upto_region 6 with fail
          refine wp_region_kept wr.heap.size (by kernel_rfl) (by kernel_rfl) ?_
          intro hne
          repeat (go_big_quiet_step (first | (go_at_call 74; exact Calls.kept_of (Nat.le_refl _) (HLo _))))
          refine wpQuiet_nil ?_
          rintro u7 ⟨xk, hxk⟩
          have hR1 := xk.h
          rw [← hxk] at hR1
          clear hxk xk hne q1 q2 q3 q4 q5 q6 q7 q8 HLo
          have S7 : Hid (Sta lo hi B g nf S lb n bs PB PC Bl Br cap lc M u7 ∧ Wr bs nf lb wr u7) := ⟨SH.out.later hR1, Wr.of_below hR1⟩
          clear hR1
          have b1 := S7.out.1.bl.cell (j := 0) (v := .slice (some ⟨lb, 0, none⟩) n lc) rfl
          have b2 := S7.out.1.br.cell (j := 0) (v := .slice (some ⟨g, 0, none⟩) nf cap) rfl
          have d4 : u7.cell? ⟨lb, k * 6 + 4, none⟩ = some (.int .i64 x.fi) := by have := S7.out.1.cp.cell hkn (show 4 < 6 by omega); rw [← HX.out] at this; simpa [lcell] using this
          have d0 : u7.cell? ⟨lb, k * 6, none⟩ = some (.int .i64 x.id) := by have := S7.out.1.cp.cell hkn (show 0 < 6 by omega); rw [← HX.out] at this; simpa [lcell] using this
          by_cases hst : (t : Int) = x.fi
          · have hb : ((t : Int) == x.fi) = true := by simpa using hst
            have HN : Hid (Sy L (Nt.pss n s (k + 1)) ys ∧ (b = false → Nt.pss n s (k + 1) = s) ∧ (b = true → Nt.fsum (Nt.pss n s (k + 1)).L n < Nt.fsum s.L n) ∧ Sta lo hi B g nf S lb n bs PB PC Bl Br cap lc (apl L ys) u7 ∧ C ys u7 ∧ Bk u7) := by
              have e : Nt.pss n s (k + 1) = Nt.pss n s k := Nt.stp_stay (by rw [HK.out.1.1, ← HMM.out, ← HT.out, ← HX.out]; omega)
              rw [e]
              exact ⟨HK.out.1, HK.out.2.1, HK.out.2.2.1, by rw [← HMM.out]; exact S7.out.1, HO.out.2.2 _ _ _ HK.out.2.2.2.2.1 S7.out.2, HO.out.2.1 _ _ (SH.out.keeps S7.out.2) HK.out.2.2.2.2.2⟩
            clear hst
            go_wp2
            go_roundw
            case rel => exact ⟨b, k + 1, ys, by omega, by simp, rfl, HN⟩
            case measure => simp [intOf]; omega
          · have hb : ((t : Int) == x.fi) = false := by simpa using hst
            have HLt : Hid (Nt.lwt n (Nt.pss n s k).L k < ((Nt.pss n s k).L k).fi.toNat) := by rw [HK.out.1.1, ← HMM.out, ← HT.out, ← HX.out]; show t < _; omega
            clear hst
            have HSl : ∀ X, Below u7.heap.size u7 X → Hid (Calls Try.prog 100 #[.slice (some ⟨g, 0, none⟩) nf cap, .pointer (some ⟨lb, k * 6, none⟩), .int .i64 (t : Nat)] X fun e w' => e = .returned (.tuple #[]) ∧ (Sta lo hi B g nf S lb n bs PB PC Bl Br cap lc (Nt.mov M k (t : Nat)) w' ∧ Wr bs nf lb u7 w')) := fun X hX => by
              have hs := slideDown_any (S7.out.1.tb.later hX) (S7.out.1.cp.later hX) HQ.out hS hS64 hnf (cap := cap) hkn hiB
              rw [← HT.out] at hs
              refine hs.mono ?_
              rintro e w' ⟨rfl, a1, a2, a3, a4⟩
              have hw : Wr bs nf lb u7 w' := (Wr.of_below hX).trans ⟨a3, a4⟩
              have h1 := S7.out.1.bl
              have h2 := S7.out.1.br
              exact ⟨rfl, ⟨a1, a2, (hw.2 Bl h1.lt HNE.out.2.2.1 HNE.out.1).trans h1, (hw.2 Br h2.lt HNE.out.2.2.2 HNE.out.2.1).trans h2⟩, hw⟩
            have k1 : ∀ X, Wr bs nf lb u7 X → X.cell? ⟨Bl, 0, none⟩ = some (.slice (some ⟨lb, 0, none⟩) n lc) := fun X hX => by
              have h1 := S7.out.1.bl
              have h2 : Blk X Bl #[.slice (some ⟨lb, 0, none⟩) n lc] 30 := (hX.2 Bl h1.lt HNE.out.2.2.1 HNE.out.1).trans h1
              exact h2.cell (j := 0) rfl
            have k2 : ∀ X, Wr bs nf lb u7 X → X.cell? ⟨Br, 0, none⟩ = some (.slice (some ⟨g, 0, none⟩) nf cap) := fun X hX => by
              have h1 := S7.out.1.br
              have h2 : Blk X Br #[.slice (some ⟨g, 0, none⟩) nf cap] 101 := (hX.2 Br h1.lt HNE.out.2.2.2 HNE.out.2.1).trans h1
              exact h2.cell (j := 0) rfl
            have hW0 : Wr bs nf lb u7 u7 := Wr.refl _ _ _ _
            have hB0 : Below u7.heap.size u7 u7 := Below.refl _ _
            go_upto_region 8 with fail
            clear b1 b2 d4 d0
            go_region_held3 (fun X => Wr bs nf lb u7 X) (first | with_reducible assumption | (with_reducible apply Wr.drew; with_reducible assumption) | (with_reducible apply Wr.drewN; with_reducible assumption)) (first | (go_at_call 100; refine (HSl _ (by first | with_reducible assumption | (with_reducible exact Below.drew (Below.refl _ _)) | (with_reducible exact below_drewN (Below.refl _ _) _) | go_grown)).out.mono ?_; rintro e w8 ⟨rfl, hS8, hW8⟩))
            have H8 : Hid (Sta lo hi B g nf S lb n bs PB PC Bl Br cap lc (apl L (ys ++ [(k, t)])) w8 ∧ C ys w8 ∧ Bk w8 ∧ Sy L (Nt.pss n s (k + 1)) (ys ++ [(k, t)]) ∧ Nt.fsum (Nt.pss n s (k + 1)).L n < Nt.fsum s.L n) := by
              have ea : apl L (ys ++ [(k, t)]) = Nt.mov M k (t : Nat) := by rw [apl_snoc, ← HMM.out]
              have et : Nt.lwt n (Nt.pss n s k).L k = t := by rw [HK.out.1.1, ← HMM.out, ← HT.out]
              have hsy := HK.out.1.go HLt.out
              rw [et] at hsy
              refine ⟨by rw [ea]; exact hS8, HO.out.2.2 _ _ _ HK.out.2.2.2.2.1 (S7.out.2.trans hW8), HO.out.2.1 _ _ (SH.out.keeps (S7.out.2.trans hW8)) HK.out.2.2.2.2.2, hsy, ?_⟩
              rcases Nt.stp_falls (n := n) (s := Nt.pss n s k) (i := k) hkn with a | a
              · have hb2 := congrArg (fun z : Nt.Td => z.sl.length) a
                rw [Nt.stp_go HLt.out] at hb2
                simp at hb2
              · have a1 := a.1
                show Nt.fsum (Nt.stp2 n (Nt.pss n s k) k).L n < _
                rcases Nt.pss_falls (n := n) (s := s) (i := k) hk with c | c
                · rw [c] at a1 ⊢; exact a1
                · omega
            have HId : Hid (x.id = (L k).id) := by show _ = _; rw [HX.out, HMM.out, apl_id]
            clear k1 k2 hW0 hB0 HSl hS8 hW8
            have b1 := H8.out.1.bl.cell (j := 0) (v := .slice (some ⟨lb, 0, none⟩) n lc) rfl
            have d0 : w8.cell? ⟨lb, k * 6, none⟩ = some (.int .i64 (L k).id) := by have := H8.out.1.cp.cell hkn (show 0 < 6 by omega); simpa [lcell, apl_id] using this
            go_upto_region 10 with fail
            have hlen : ys.length ≤ Nt.fsum L n := by
              have a1 : (Nt.pss n s k).sl.length = ys.length := by rw [HK.out.1.2, List.length_map]
              have a2 := Nt.pss_room (n := n) (s := s) (i := k) hk
              have a3 := Nt.rds_room (n := n) (r := r) (s := ⟨L, []⟩)
              rw [← HS.out.1] at a3
              simp at a3
              omega
            obtain ⟨fn, tmps, assign, body, hy, hR⟩ := HY.out ys (k, t) w8 ⟨H8.out.1, H8.out.2.1, hlen⟩ H8.out.2.2.1
            clear hlen
            dsimp only [encT] at hy
            refine (wpIn_wide (n := 5)).1 ?_
            gi_wp2
            refine hR.mono ?_
            rintro e W3 ⟨rfl, ⟨hS3, hC3⟩, hB3⟩
            have HN : Hid (Sy L (Nt.pss n s (k + 1)) (ys ++ [(k, t)]) ∧ Nt.fsum (Nt.pss n s (k + 1)).L n < Nt.fsum s.L n ∧ Sta lo hi B g nf S lb n bs PB PC Bl Br cap lc (apl L (ys ++ [(k, t)])) W3 ∧ C (ys ++ [(k, t)]) W3 ∧ Bk W3) := ⟨H8.out.2.2.2.1, H8.out.2.2.2.2, hS3, hC3, hB3⟩
            clear hy hR hS3 hC3 hB3 b1 d0
            gi_wp2
            go_wp2
            go_roundw
            case rel => exact ⟨true, k + 1, _, by omega, by simp, rfl, HN.out.1, fun h => absurd h (by decide), fun _ => HN.out.2.1, HN.out.2.2⟩
            case measure => simp [intOf]; omega
        · obtain rfl : n = k := by omega
          have HN : Hid (Sy L (Nt.rds n (r + 1) ⟨L, []⟩) ys ∧ (b = false → Nt.pss n (Nt.rds n (r + 1) ⟨L, []⟩) n = Nt.rds n (r + 1) ⟨L, []⟩) ∧ Sta lo hi B g nf S lb n bs PB PC Bl Br cap lc (apl L ys) wr ∧ C ys wr ∧ Bk wr) := by
            rw [Nt.rds_next, ← HS.out.1]
            exact ⟨HK.out.1, fun h => by rw [HK.out.2.1 h, HK.out.2.1 h], HK.out.2.2.2⟩
          have HM : Hid (wsum lb n wr = Nt.fsum (Nt.pss n s n).L n) := by show _ = _; rw [wsum_is HK.out.2.2.2.1.cp (Nat.le_refl _), HK.out.1.1]
          go_wp2
          go_roundw
          case rel => exact ⟨b, r + 1, ys, rfl, HN⟩
          case measure =>
            have m1 := HW0.out
            have m2 := HM.out
            have m3 := HK.out.2.1
            have m4 := HK.out.2.2.1
            cases b with
            | false => rw [m3 rfl] at m2; simp; omega
            | true => have := m4 rfl; simp; omega
end Go.Proofs.Ytinfbbbgfkaioaa
end
section
namespace Go.Proofs.Ytinfbbbgfkaioaa
open Go.RowKit
set_option linter.unusedVariables false
set_option linter.unusedSimpArgs false
/-- A list of slides, cell by cell. -/
def fl (xs : List (Int × Int)) : List Value := xs.flatMap fun x => [.int .i64 x.1, .int .i64 x.2]
theorem fl_snoc (xs : List (Int × Int)) (x : Int × Int) : fl (xs ++ [x]) = fl xs ++ [.int .i64 x.1, .int .i64 x.2] := by unfold fl; rw [List.flatMap_append]; simp
def scl (xs : List (Int × Int)) (i j : Nat) : Value := if j = 0 then .int .i64 (xs.getD i (0, 0)).1 else .int .i64 (xs.getD i (0, 0)).2
theorem fl_at : ∀ (xs : List (Int × Int)) (i j : Nat), i < xs.length → j < 2 → (fl xs)[i * 2 + j]? = some (scl xs i j)
  | [], i, j, h, _ => absurd h (Nat.not_lt_zero _)
  | x :: xs, 0, j, _, hj => by
    show (Value.int .i64 x.1 :: .int .i64 x.2 :: fl xs)[0 * 2 + j]? = _
    match j, hj with
    | 0, _ => rfl
    | 1, _ => rfl
  | x :: xs, i + 1, j, h, hj => by
    show (Value.int .i64 x.1 :: .int .i64 x.2 :: fl xs)[(i + 1) * 2 + j]? = _
    rw [show (i + 1) * 2 + j = (i * 2 + j) + 1 + 1 by omega]
    simp only [List.getElem?_cons_succ]
    rw [fl_at xs i j (by simpa using h) hj]
    unfold scl
    simp
theorem owned_slides {w : World} {base : Nat} {v : Value} {xs : List (Int × Int)} (h : w.ownsRow base 55 2 v xs.length (fl xs)) : (xs = [] ∧ v = .slice none 0 0) ∨ ∃ g cap, v = .slice (some ⟨g, 0, none⟩) xs.length cap ∧ base ≤ g ∧ SegV w g 55 xs.length 2 (scl xs) := by
  obtain ⟨_, h1 | ⟨g, cap, cur, hv, hg, hh, h1, h2, h3, h4⟩⟩ := h
  · exact Or.inl ⟨List.length_eq_zero_iff.1 h1.2, h1.1⟩
  · refine Or.inr ⟨g, cap, hv, hg, cur, hh, fun i hi j hj => ?_⟩
    have e : (cur.toList.take (xs.length * 2))[i * 2 + j]? = (fl xs)[i * 2 + j]? := by rw [h4]
    rw [List.getElem?_take_of_lt (by omega), fl_at xs i j hi hj] at e
    rw [← Array.getElem?_toList]
    exact e
theorem info55 : (Try.prog.info? 55).map (fun i => (i.zero, i.size, i.bytes)) = some (some (.agg #[.int .i64 0, .int .i64 0]), 2, 16) := by kernel_rfl
theorem owns_keep {w w' : World} {base n m : Nat} {t : TypeId} {v : Value} {xs : List Value} (h : w.ownsRow base t m v n xs) (hk : ∀ k, base ≤ k → k < w.heap.size → w'.heap[k]? = w.heap[k]?) : w'.ownsRow base t m v n xs := by
  obtain ⟨h0, h1 | ⟨g, cap, cur, hv, hg, hh, r⟩⟩ := h
  · exact ⟨h0, Or.inl h1⟩
  · exact ⟨h0, Or.inr ⟨g, cap, cur, hv, hg, (hk g hg (Array.getElem?_eq_some_iff.1 hh).1).trans hh, r⟩⟩
theorem owns_cells {w : World} {base n m : Nat} {t : TypeId} {v : Value} {xs : List Value} (h : w.ownsRow base t m v n xs) {g : Nat} (hg : v.ownBlock = some g) : ∃ c, w.heap[g]? = some (.cells c t (0, 0)) := by
  obtain ⟨_, ⟨rfl, _⟩ | ⟨g', cap, cur, rfl, _, hh, _⟩⟩ := h
  · simp [Value.ownBlock] at hg
  · simp [Value.ownBlock] at hg
    subst hg
    exact ⟨cur, hh⟩
/-- What the loop of TidyNet knows besides rows and lights: block kt holds the answer so far, the slides lie from base on, block rb the result, all from before w is as it was. -/
structure Cs (w : World) (base kt rb : Nat) (lv : Value) (L : Nat → Li) (xs : List (Nat × Nat)) (W : World) : Prop where
  ex : ∃ v, Blk W kt #[.int .i64 0, v, lv] 64 ∧ W.ownsRow base 55 2 v xs.length (fl (xs.map (tell L)))
  rb : Blk W rb #[.int .i64 0, .slice none 0 0, .slice none 0 0] 64
  low : Below w.heap.size w W
  sz : base ≤ W.heap.size
theorem Cs.wr {w : World} {base kt rb : Nat} {lv : Value} {L : Nat → Li} {xs : List (Nat × Nat)} {X Y : World} {bs : Nat → Nat} {nf lb : Nat} (h : Cs w base kt rb lv L xs X) (hw : Wr bs nf lb X Y)
    (hlb : lb < base) (hbs : ∀ i, i < nf → bs i < base) (hkt : kt ≠ lb ∧ ∀ i, i < nf → kt ≠ bs i) (hrb : rb ≠ lb ∧ ∀ i, i < nf → rb ≠ bs i) (hw0 : w.heap.size ≤ lb ∧ ∀ i, i < nf → w.heap.size ≤ bs i) : Cs w base kt rb lv L xs Y := by
  obtain ⟨v, h1, h2⟩ := h.ex
  refine ⟨⟨v, (hw.2 kt h1.lt hkt.2 hkt.1).trans h1, owns_keep h2 fun k a b => hw.2 k b (fun i hi e => by have := hbs i hi; omega) (by omega)⟩, (hw.2 rb h.rb.lt hrb.2 hrb.1).trans h.rb, ?_, Nat.le_trans h.sz hw.1.size⟩
  exact h.low.trans ⟨hw.1.os, hw.1.tape, hw.1.output, hw.1.size, fun k hk => hw.2 k (Nat.lt_of_lt_of_le hk h.low.size) (fun i hi e => by have := hw0.2 i hi; omega) (by omega)⟩
end Go.Proofs.Ytinfbbbgfkaioaa
end
section
namespace Go.Proofs.Ytinfbbbgfkaioaa
open Go.RowKit
set_option linter.unusedVariables false
set_option linter.unusedSimpArgs false
attribute [local go_sem] Oper.semAt_some
theorem Sta.same {lo hi B g nf S lb n : Nat} {bs PB PC : Nat → Nat} {Bl Br cap lc : Nat} {M : Nat → Li} {X Y : World} (h : Sta lo hi B g nf S lb n bs PB PC Bl Br cap lc M X)
    (hk : ∀ k, (k = g ∨ k = lb ∨ k = Bl ∨ k = Br ∨ (∃ i, i < nf ∧ k = bs i) ∨ ∃ i, i < n ∧ k = PB i) → Y.heap[k]? = X.heap[k]?) : Sta lo hi B g nf S lb n bs PB PC Bl Br cap lc M Y := by
  obtain ⟨h1, h2, h3, h4⟩ := h
  refine ⟨⟨h1.top.of_block (hk g (Or.inl rfl)), fun i hi => (h1.row i hi).of_block (hk _ (Or.inr (Or.inr (Or.inr (Or.inr (Or.inl ⟨i, hi, rfl⟩)))))), h1.blo, h1.bhi, h1.rlo, h1.rhi, h1.apart⟩, ⟨h2.1, h2.2.1.of_block (hk lb (Or.inr (Or.inl rfl))), fun i hi => ⟨(h2.2.2 i hi).1, (h2.2.2 i hi).2.of_block (hk _ (Or.inr (Or.inr (Or.inr (Or.inr (Or.inr ⟨i, hi, rfl⟩)))))) ⟩⟩, (hk Bl (Or.inr (Or.inr (Or.inl rfl)))).trans h3, (hk Br (Or.inr (Or.inr (Or.inr (Or.inl rfl))))).trans h4⟩
/-- The blocks of rows and lights are cells. -/
theorem Sta.cell {lo hi B g nf S lb n : Nat} {bs PB PC : Nat → Nat} {Bl Br cap lc : Nat} {M : Nat → Li} {X : World} (h : Sta lo hi B g nf S lb n bs PB PC Bl Br cap lc M X) {k : Nat} (hk : k = g ∨ k = lb ∨ k = Bl ∨ k = Br ∨ (∃ i, i < nf ∧ k = bs i) ∨ ∃ i, i < n ∧ k = PB i) : ∃ c t, X.heap[k]? = some (.cells c t (0, 0)) := by
  rcases hk with rfl | rfl | rfl | rfl | ⟨i, hi, rfl⟩ | ⟨i, hi, rfl⟩
  · obtain ⟨c, hc, _⟩ := h.tb.top; exact ⟨c, _, hc⟩
  · obtain ⟨c, hc, _⟩ := h.cp.2.1; exact ⟨c, _, hc⟩
  · exact ⟨_, _, h.bl⟩
  · exact ⟨_, _, h.br⟩
  · obtain ⟨c, hc, _⟩ := h.tb.row i hi; exact ⟨c, _, hc⟩
  · obtain ⟨c, hc, _⟩ := (h.cp.2.2 i hi).2; exact ⟨c, _, hc⟩
theorem Cs.later {w : World} {base kt rb : Nat} {lv : Value} {L : Nat → Li} {xs : List (Nat × Nat)} {X Y : World} (h : Cs w base kt rb lv L xs X) (hb : Below X.heap.size X Y) : Cs w base kt rb lv L xs Y := by
  obtain ⟨v, h1, h2⟩ := h.ex
  exact ⟨⟨v, h1.old hb, ownsV_later h2 hb⟩, h.rb.old hb, h.low.trans (hb.mono h.low.size), Nat.le_trans h.sz hb.size⟩
theorem loop_off {X : World} {l k : Nat} {r : Loop} {c : Array Value} {t : TypeId} (hr : X.heap[l]? = some (.loop r)) (hk : X.heap[k]? = some (.cells c t (0, 0))) : k ≠ l := fun e => by rw [e, hr] at hk; cases hk
theorem below_put {n0 : Nat} {X : World} {l : Nat} (hl : n0 ≤ l) (o : Obj) (hs : n0 ≤ X.heap.size) : Below n0 X (X.putObj l o) := (Below.refl _ X).grown (grownBy_putObj' X l o) hs (fun k e => by cases e; exact hl)
theorem Cs.put {w : World} {base kt rb : Nat} {lv : Value} {L : Nat → Li} {xs : List (Nat × Nat)} {X : World} (h : Cs w base kt rb lv L xs X) {l : Nat} {r : Loop} (hr : X.heap[l]? = some (.loop r)) (hl : base ≤ l) (hw : w.heap.size ≤ base) (o : Obj) : Cs w base kt rb lv L xs (X.putObj l o) := by
  obtain ⟨v, h1, h2⟩ := h.ex
  have hb := below_put (n0 := base) hl o h.sz
  refine ⟨⟨v, (World.putObj_heap_other (loop_off hr h1)).trans h1, ?_⟩, (World.putObj_heap_other (loop_off hr h.rb)).trans h.rb, h.low.trans (hb.mono hw), Nat.le_trans h.sz hb.size⟩
  obtain ⟨h0, a | ⟨g, cap, cur, hv, hg, hh, q⟩⟩ := h2
  · exact ⟨h0, Or.inl a⟩
  · exact ⟨h0, Or.inr ⟨g, cap, cur, hv, hg, (World.putObj_heap_other (loop_off hr hh)).trans hh, q⟩⟩
theorem Sta.put {lo hi B g nf S lb n : Nat} {bs PB PC : Nat → Nat} {Bl Br cap lc : Nat} {M : Nat → Li} {X : World} (h : Sta lo hi B g nf S lb n bs PB PC Bl Br cap lc M X) {l : Nat} {r : Loop} (hr : X.heap[l]? = some (.loop r)) (o : Obj) : Sta lo hi B g nf S lb n bs PB PC Bl Br cap lc M (X.putObj l o) :=
  h.same fun k hk => by obtain ⟨c, t, hc⟩ := h.cell hk; exact World.putObj_heap_other (loop_off hr hc)
theorem keepsF_below {B : Nat} {W W' : World} (h : Below W.heap.size W W') : KeepsFrom B W W' := ⟨h.size, fun k o _ hk _ => (h.block k (Array.getElem?_eq_some_iff.1 hk).1).trans hk⟩
/-- What TidyNet answers, in memory of its own: lights from lo on, below mid; slides from mid on, below hi. -/
def OwnT (lo mid hi : Nat) (w : World) (c : Int) (sv lv : Value) (xs : List (Int × Int)) (n : Nat) (L : Nat → Li) : Prop :=
  (c ≠ 0 ∧ sv = .slice none 0 0 ∧ lv = .slice none 0 0) ∨ (c = 0 ∧ ((xs = [] ∧ sv = .slice none 0 0) ∨ ∃ g cap, sv = .slice (some ⟨g, 0, none⟩) xs.length cap ∧ mid ≤ g ∧ g < hi ∧ SegV w g 55 xs.length 2 (scl xs)) ∧
    ∃ g cap, lv = .slice (some ⟨g, 0, none⟩) n cap ∧ OwLs lo mid w g n L)
set_option maxRecDepth 100000 in
set_option maxHeartbeats 8000000 in
theorem iTidy_some {w : World} {ao lo : Option Addr} {nf cp n cl : Nat} {nodes slots : Int} {F : Nat → Fb} {L : Nat → Li} {c : Int} (hcc : c = Nt.lfault nodes slots nf F n L) (hn0 : 0 < n) (h : Rf w (.slice ao nf cp) nf F) (hl : RdL w (.slice lo n cl) n L) (hf : nf ≤ 1048576) (hw : LFew n L) (hcp : nf ≤ cp) (hd : LBd n L) :
    Calls Try.prog 35 #[.agg #[.int .i64 nodes, .int .i64 slots, .slice ao nf cp], .slice lo n cl] w fun e w' => ∃ sv lv mid, e = .returned (.agg #[.int .i64 c, sv, lv]) ∧ (w.heap.size ≤ mid ∧ mid ≤ w'.heap.size ∧ OwnT w.heap.size mid w'.heap.size w' c sv lv (Nt.fin n L).sl n (Nt.fin n L).L) ∧ Below w.heap.size w w' := by
  obtain ⟨X, hX⟩ : ∃ X, X = ((w.alloc (.cells #[.int .i64 nodes, .int .i64 slots, .slice ao nf cp] 37)).alloc (.cells #[.int .i64 0, .slice none 0 0, .slice none 0 0] 64)) := ⟨_, rfl⟩
  have BX : Hid (Blk X w.heap.size #[.int .i64 nodes, .int .i64 slots, .slice ao nf cp] 37 ∧ Blk X (w.heap.size + 1) #[.int .i64 0, .slice none 0 0, .slice none 0 0] 64 ∧ Below w.heap.size w X) := by rw [hX]; exact ⟨(Blk.new rfl).alloc _, Blk.new (by simp), ((Below.refl _ _).alloc (Nat.le_refl _) _).alloc (by simp) _⟩
  have hXz : w.heap.size + 1 < X.heap.size := BX.out.2.1.lt
  have hXz1 : w.heap.size ≤ X.heap.size := by omega
  have H : ∀ W, Below X.heap.size X W → Hid (Rf W (.slice ao nf cp) nf F ∧ RdL W (.slice lo n cl) n L) := fun W hb => ⟨h.later (BX.out.2.2.trans (hb.mono hXz1)), hl.later (BX.out.2.2.trans (hb.mono hXz1))⟩
  have hcall := rowsOf_any (nodes := nodes) (slots := slots) (H _ (Below.refl _ _)).out.1 (H _ (Below.refl _ _)).out.2 hf hw hcp hd
  have HW : Hid (LFew n L) := hw
  have HCC : Hid (c = Nt.lfault nodes slots nf F n L) := hcc
  clear h hl hw hd hcc
  have x0 := BX.out.1.cell (j := 0) (v := .int .i64 nodes) rfl
  have x1 := BX.out.1.cell (j := 1) (v := .int .i64 slots) rfl
  have x2 := BX.out.1.cell (j := 2) (v := .slice ao nf cp) rfl
  refine (callsIn_wide (n := 6)).1 ?_
  refine callsIn_of_wp_marks Try.func35 rfl trivial ?_ rfl
  simp only [Try.ntmps35, List.size_toArray, List.length_cons, List.length_nil, Nat.reduceAdd, Nat.reduceSub, Array.replicate_succ, Array.replicate_zero, List.push_toArray, List.append_toArray, List.nil_append, List.cons_append]
  refine wpIn_wide.2 ?_
  go_upto_region 1 with fail
  rw [← hX]
  clear hX
  go_wp2_with fail
  refine hcall.mono ?_
  rintro e w1 ⟨v, rfl, htab, hb1⟩
  clear x0 x1 x2 hcall
  have HTb : Hid (Tab X.heap.size w1.heap.size w1 (Nt.lfault nodes slots nf F n L) v nf slots.toNat (fun f s => Nt.bk L n f s)) := htab
  have HB1 : Hid (Below X.heap.size X w1) := hb1
  clear htab hb1
  rw [← HCC.out]
  have hR := BX.out.2.1.old HB1.out
  have r0 := hR.cell (j := 0) (v := .int .i64 0) rfl
  have r1 := hR.cell (j := 1) (v := .slice none 0 0) rfl
  have r2 := hR.cell (j := 2) (v := .slice none 0 0) rfl
  have rf := hR.frozen
  have rl := hR.lt
  clear hR
  by_cases hz : c = 0
  · have hb : (c != 0) = false := by simpa using hz
    have hfl : Nt.lfault nodes slots nf F n L = 0 := by rw [← HCC.out]; exact hz
    subst hz
    obtain ⟨G, hn40, hO⟩ := lf_good hfl
    have hnf : 0 < nf := by have := (hO.ok 0 hn0).fib (hO.ok 0 hn0).one; omega
    obtain ⟨g, cap, bs, rfl, htb⟩ : ∃ g cap bs, v = .slice (some ⟨g, 0, none⟩) nf cap ∧ Tb X.heap.size w1.heap.size w1 g bs nf slots.toNat (fun f s => Nt.bk L n f s) := by
      rcases HTb.out with ⟨a | a, _⟩ | ⟨_, a⟩
      · exact absurd hfl a
      · omega
      · exact a
    have HG : Hid (Nt.Good nodes slots nf F ∧ Nt.AllOk nodes slots nf F n L ∧ Tb X.heap.size w1.heap.size w1 g bs nf slots.toNat (fun f s => Nt.bk L n f s)) := ⟨G, hO, htb⟩
    clear G hO htb HTb hfl r0 r1 r2 rf rl
    go_wp2_with fail
    refine (copyL_any (H w1 HB1.out).out.2 hn0 HW.out (fun i hi => (HG.out.2.1.ok i hi).one)).mono ?_
    rintro e w4 ⟨g4, c4, rfl, hc4, how, hb4⟩
    obtain ⟨PB, PC, hcp4, hg4, hpb4, hap4⟩ := how.cpy
    have H4 : Hid (Cpy w1.heap.size w4 g4 n PB PC L ∧ g4 < w4.heap.size ∧ (∀ i, i < n → PB i < w4.heap.size) ∧ (∀ i j, i < n → j < n → PB i = PB j → i = j) ∧ Below X.heap.size X w4 ∧ Below w1.heap.size w1 w4) := ⟨hcp4, hg4, hpb4, hap4, HB1.out.trans (hb4.mono HB1.out.size), hb4⟩
    clear hcp4 hg4 hpb4 hap4 how hb4 hc4
    obtain ⟨Y, hY⟩ : ∃ Y, Y = w4.alloc (.cells #[.int .i64 0, .slice none 0 0, .slice (some ⟨g4, 0, none⟩) n c4] 64) := ⟨_, rfl⟩
    have BY : Hid (Blk Y w4.heap.size #[.int .i64 0, .slice none 0 0, .slice (some ⟨g4, 0, none⟩) n c4] 64 ∧ Below w4.heap.size w4 Y ∧ Y.heap.size = w4.heap.size + 1) := by rw [hY]; exact ⟨Blk.new rfl, (Below.refl _ _).alloc (Nat.le_refl _) _, by simp⟩
    go_upto_region 5 with fail
    rw [← hY]
    clear hY
    have y2 := BY.out.1.cell (j := 2) (v := .slice (some ⟨g4, 0, none⟩) n c4) rfl
    go_wp2_with (go_at_call 75; refine (slides_any _ _ ⟨_, _, _, rfl⟩ ⟨_, _, _, rfl⟩ _).mono ?_; rintro e w5 ⟨rfl, hw5⟩)
    clear y2 hw5
    obtain ⟨W0, hW0⟩ : ∃ W0, W0 = (Y.alloc (.cells #[.slice (some ⟨g, 0, none⟩) nf cap] 101)).alloc (.cells #[.slice (some ⟨g4, 0, none⟩) n c4] 30) := ⟨_, rfl⟩
    have B0 : Hid (Blk W0 Y.heap.size #[.slice (some ⟨g, 0, none⟩) nf cap] 101 ∧ Blk W0 (Y.heap.size + 1) #[.slice (some ⟨g4, 0, none⟩) n c4] 30 ∧ Below Y.heap.size Y W0 ∧ W0.heap.size = Y.heap.size + 2) := by rw [hW0]; exact ⟨(Blk.new rfl).alloc _, Blk.new (by simp), ((Below.refl _ _).alloc (Nat.le_refl _) _).alloc (by simp) _, by simp⟩
    rw [← hW0]
    clear hW0
    have z1 := HB1.out.size
    have z2 := H4.out.2.2.2.2.2.size
    have z3 := BY.out.2.2
    have z4 := B0.out.2.2.2
    have z5 := H4.out.2.1
    have z6 := H4.out.1.1
    have T1 : Hid (∀ i, i < nf → X.heap.size ≤ bs i ∧ bs i < w1.heap.size) := fun i hi => ⟨HG.out.2.2.rlo i hi, HG.out.2.2.rhi i hi⟩
    have D4 : Hid (Below w4.heap.size w4 W0 ∧ Below w1.heap.size w1 W0 ∧ Below w.heap.size w W0) := by
      have a : Below w4.heap.size w4 W0 := BY.out.2.1.trans (B0.out.2.2.1.mono BY.out.2.1.size)
      exact ⟨a, H4.out.2.2.2.2.2.trans (a.mono z2), BX.out.2.2.trans ((H4.out.2.2.2.2.1.trans (a.mono (by omega))).mono hXz1)⟩
    have ST0 : Sta X.heap.size w1.heap.size w1.heap.size g nf slots.toNat g4 n bs PB PC (Y.heap.size + 1) Y.heap.size cap c4 L W0 := ⟨HG.out.2.2.later D4.out.2.1, H4.out.1.later D4.out.1, B0.out.2.1, B0.out.1⟩
    have CS0 : Cs w W0.heap.size w4.heap.size (w.heap.size + 1) (.slice (some ⟨g4, 0, none⟩) n c4) L [] W0 := ⟨⟨.slice none 0 0, BY.out.1.old B0.out.2.2.1, ownsV_nil _ _ _ _⟩, (BX.out.2.1.old H4.out.2.2.2.2.1).old D4.out.1, D4.out.2.2, Nat.le_refl _⟩
    have s64 := HG.out.1.s64
    have f14 := HG.out.1.f14
    refine (wpIn_wide (n := 6)).1 ?_
    refine range_runs (α := Nat × Nat) rfl (by omega) (gf := 99) (lb := #[.pointer (some ⟨Y.heap.size + 1, 0, none⟩), .pointer (some ⟨Y.heap.size, 0, none⟩)]) rfl trivial (enters_of Try.func99 (by kernel_rfl) rfl) (encs := encT L) (fun _ => rfl)
      (its_runs (F := F) (nodes := nodes) (slots := slots) (L := L) (lo := X.heap.size) (hi := w1.heap.size) (B := w1.heap.size) (g := g) (nf := nf) (S := slots.toNat) (lb := g4) (n := n) (bs := bs) (PB := PB) (PC := PC) (Bl := Y.heap.size + 1) (Br := Y.heap.size) (cap := cap) (lc := c4) HG.out.2.1 hn40 rfl (by omega) (by omega) (Nat.le_refl _) (by omega) (by omega) (fun i hi => by have := T1.out i hi; omega) (fun i hi => by have := T1.out i hi; omega) W0.heap.size
        (Cs w W0.heap.size w4.heap.size (w.heap.size + 1) (.slice (some ⟨g4, 0, none⟩) n c4) L) (fun xs A A' hA hAw => hA.wr hAw (by omega) (fun i hi => by have := T1.out i hi; omega) ⟨by omega, fun i hi => by have := T1.out i hi; omega⟩ ⟨by omega, fun i hi => by have := T1.out i hi; omega⟩ ⟨by omega, fun i hi => by have := T1.out i hi; omega⟩))
      (fun o o' => ?h0) (fun xs A l o' hI hl hr => ?h2) (fun l pre x A K hl hr hI hK => ?hround) (fun l o xs A hl hE hr hdf => ?hend)
    case h0 =>
      have hb : Below W0.heap.size W0 ((W0.alloc o).alloc o') := ((Below.refl _ _).alloc (Nat.le_refl _) _).alloc (by simp) _
      exact ⟨ST0.later hb, CS0.later hb⟩
    case h2 =>
      obtain ⟨r, hr⟩ := hr
      exact ⟨hI.1.put hr o', hI.2.put hr (by omega) (by omega) o'⟩
    case hround =>
      obtain ⟨r, hr⟩ := hr
      dsimp only [encT]
      gi_wp2
      refine hK _ _ (keepsF_below ((Below.refl _ _).alloc (Nat.le_refl _) _)) fun r2 => ?_
      obtain ⟨hS, hCs, hlen⟩ := hI
      have hfs : Nt.fsum L n ≤ n * 64 := Nt.fsum_le fun i hi => by have a := (HG.out.2.1.ok i hi).top; have b := (HG.out.2.1.ok i hi).w1; have c := (HG.out.2.1.ok i hi).f0; omega
      have hlen2 : pre.length ≤ 1000000000 := by have : n * 64 ≤ 40 * 64 := Nat.mul_le_mul_right _ hn40; omega
      have hbA : Below A.heap.size A (A.alloc (.cells #[.int .i64 (L x.1).id, .int .i64 ((x.2 : Nat) : Int)] 55)) := (Below.refl _ _).alloc (Nat.le_refl _) _
      have hlA : l < A.heap.size := (Array.getElem?_eq_some_iff.1 hr).1
      have hr1 : (A.alloc (.cells #[.int .i64 (L x.1).id, .int .i64 ((x.2 : Nat) : Int)] 55)).heap[l]? = some (.loop r) := (hbA.block l hlA).trans hr
      obtain ⟨V, hV⟩ : ∃ V, V = (A.alloc (.cells #[.int .i64 (L x.1).id, .int .i64 ((x.2 : Nat) : Int)] 55)).putObj l (.loop r2) := ⟨_, rfl⟩
      have HV : Hid (Sta X.heap.size w1.heap.size w1.heap.size g nf slots.toNat g4 n bs PB PC (Y.heap.size + 1) Y.heap.size cap c4 (apl L (pre ++ [x])) V ∧ Cs w W0.heap.size w4.heap.size (w.heap.size + 1) (.slice (some ⟨g4, 0, none⟩) n c4) L pre V ∧ Blk V A.heap.size #[.int .i64 (L x.1).id, .int .i64 ((x.2 : Nat) : Int)] 55) := by
        rw [hV]
        exact ⟨(hS.later hbA).put hr1 _, (hCs.later hbA).put hr1 (by omega) (by omega) _, (World.putObj_heap_other (by omega)).trans (Blk.new rfl : Blk (A.alloc _) A.heap.size _ _)⟩
      rw [← hV]
      clear hV hS hCs hbA hr1 hr hlA hfs hlen hK
      obtain ⟨sv, hkt, hown⟩ := HV.out.2.1.ex
      have hszV := HV.out.2.1.sz
      have v0 := HV.out.2.2.cell (j := 0) (v := .int .i64 (L x.1).id) rfl
      have v1c := HV.out.2.2.cell (j := 1) (v := .int .i64 ((x.2 : Nat) : Int)) rfl
      have k1 := hkt.cell (j := 1) (v := sv) rfl
      have HOw : Hid (Blk V w4.heap.size #[.int .i64 0, sv, .slice (some ⟨g4, 0, none⟩) n c4] 64 ∧ V.ownsRow W0.heap.size 55 2 sv pre.length (fl (pre.map (tell L)))) := ⟨hkt, hown⟩
      clear hkt hown
      refine wpIn_block ?_
      refine region_round_lit (by kernel_rfl) (by rintro ⟨_, _, h⟩; cases h.1) ?_
      go_wp2_with (first | (at_builtin; refine pushV rfl (.tmp 28) (.tmp 30) 62 rfl 55 (.agg #[.int .i64 0, .int .i64 0]) 2 16 Try.underlying62 info55 rfl (by decide) (by decide) V [.int .i64 (L x.1).id, .int .i64 ((x.2 : Nat) : Int)] rfl (by simp [Value.oneCell']) W0.heap.size _ pre.length _ rfl HOw.out.2 1 rfl hlen2 hszV ?_; intro nv w3 own3 grow3 nn3; obtain ⟨gq, cq, hnv⟩ := ownsRow_succ own3; have hk3 : Blk w3 w4.heap.size #[.int .i64 0, sv, .slice (some ⟨g4, 0, none⟩) n c4] 64 := (by refine ((grow3.block _ (by have := HOw.out.1.lt; simp; omega) (fun e => by have := (HOw.out.2.lt _ e.symm).1; omega)).trans (Below.heap_alloc _ _ _ HOw.out.1.lt)).trans HOw.out.1); have m1 := hk3.cell (j := 1) (v := sv) rfl; have mf := hk3.frozen; have ml := hk3.lt))
      obtain ⟨hS3, hC3, hB3⟩ := HV.out
      have gb : ∀ k, k < W0.heap.size → w3.heap[k]? = V.heap[k]? := fun k hk => (grow3.block k (by simp; omega) (fun e => by have := (HOw.out.2.lt _ e.symm).1; omega)).trans (Below.heap_alloc _ _ _ (by omega))
      have hbel : Below W0.heap.size V w3 := pushV_below HOw.out.2 grow3 (Below.refl _ _) hszV
      refine ⟨trivial, ?_, ?_, ?_⟩
      · refine KeepsFrom.trans (Y := w3) ⟨hbel.size, fun k ob hB hk ho => ?_⟩ ((KeepsOthers.setCell w3 _ _).from _)
        have hlt := (Array.getElem?_eq_some_iff.1 hk).1
        refine ((grow3.block k (by simp; omega) (fun e => ?_)).trans (Below.heap_alloc _ _ _ hlt)).trans hk
        obtain ⟨cc, hcc⟩ := owns_cells HOw.out.2 e.symm
        rw [hk] at hcc
        cases hcc
        cases ho
      · refine hS3.same fun k hk => ?_
        have hkW : k < W0.heap.size ∧ k ≠ w4.heap.size := by
          rcases hk with rfl | rfl | rfl | rfl | ⟨i, hi, rfl⟩ | ⟨i, hi, rfl⟩
          · have := HG.out.2.2.bhi; omega
          · omega
          · omega
          · omega
          · have := T1.out i hi; omega
          · have := H4.out.2.2.1 i hi; omega
        exact (Below.heap_setCell _ _ _ _ hkW.2).trans (gb k hkW.1)
      · refine ⟨⟨_, Blk.set hk3 1 _ rfl, ?_⟩, ?_, ?_, ?_⟩
        · have e : fl ((pre ++ [x]).map (tell L)) = fl (pre.map (tell L)) ++ [.int .i64 (L x.1).id, .int .i64 ((x.2 : Nat) : Int)] := by rw [List.map_append]; exact fl_snoc _ _
          have e2 : (pre ++ [x]).length = pre.length + 1 := by simp
          rw [e, e2, ← hnv]
          exact owns_keep own3 fun k a b => Below.heap_setCell _ _ _ _ (by show k ≠ w4.heap.size; omega)
        · exact ((Below.heap_setCell _ _ _ _ (by show w.heap.size + 1 ≠ w4.heap.size; omega)).trans (gb _ (by omega))).trans hC3.rb
        · exact (hC3.low.trans (hbel.mono (by omega))).setCell (by show w.heap.size ≤ w4.heap.size; omega) _
        · have := hbel.size; simp; omega
    case hend =>
      obtain ⟨r, hr⟩ := hr
      obtain ⟨hSy, hS, hCs⟩ := hE
      obtain ⟨Z, hZ⟩ : ∃ Z, Z = A.putObj l o := ⟨_, rfl⟩
      have HZ : Hid (Sta X.heap.size w1.heap.size w1.heap.size g nf slots.toNat g4 n bs PB PC (Y.heap.size + 1) Y.heap.size cap c4 (apl L xs) Z ∧ Cs w W0.heap.size w4.heap.size (w.heap.size + 1) (.slice (some ⟨g4, 0, none⟩) n c4) L xs Z ∧ Sy L (Nt.fin n L) xs ∧ Z.heap[W0.heap.size]? = some (.deferred (some []))) := by
        rw [hZ]
        exact ⟨hS.put hr o, hCs.put hr (by omega) (by omega) o, hSy, (World.putObj_heap_other (by omega)).trans hdf⟩
      rw [← hZ]
      clear hZ hS hCs hSy hdf hr
      obtain ⟨sv, hkt, hown⟩ := HZ.out.2.1.ex
      have hrb := HZ.out.2.1.rb
      have hszZ := HZ.out.2.1.sz
      obtain ⟨so, sk, sc, hsv⟩ : ∃ so sk sc, sv = .slice so sk sc := by
        have e : (xs.map (tell L)).length = xs.length := by simp
        rw [← e] at hown
        rcases owned_slides hown with ⟨_, e⟩ | ⟨gq, cq, e, _⟩
        · exact ⟨_, _, _, e⟩
        · exact ⟨_, _, _, e⟩
      subst hsv
      have k0 := hkt.cell (j := 0) (v := .int .i64 0) rfl
      have k1 := hkt.cell (j := 1) (v := .slice so sk sc) rfl
      have k2 := hkt.cell (j := 2) (v := .slice (some ⟨g4, 0, none⟩) n c4) rfl
      have q0 := hrb.cell (j := 0) (v := .int .i64 0) rfl
      have q1 := hrb.cell (j := 1) (v := .slice none 0 0) rfl
      have q2 := hrb.cell (j := 2) (v := .slice none 0 0) rfl
      have qf := hrb.frozen
      have ql := hrb.lt
      have HOw : Hid (Blk Z w4.heap.size #[.int .i64 0, .slice so sk sc, .slice (some ⟨g4, 0, none⟩) n c4] 64 ∧ Z.ownsRow W0.heap.size 55 2 (.slice so sk sc) xs.length (fl (xs.map (tell L))) ∧ Blk Z (w.heap.size + 1) #[.int .i64 0, .slice none 0 0, .slice none 0 0] 64) := ⟨hkt, hown, hrb⟩
      clear hkt hown hrb
      dsimp only
      go_wp2
      obtain ⟨U, hU⟩ : ∃ U, U = ((Z.setCell ⟨w.heap.size + 1, 0, none⟩ (.int .i64 0)).setCell ⟨w.heap.size + 1, 1, none⟩ (.slice so sk sc)).setCell ⟨w.heap.size + 1, 2, none⟩ (.slice (some ⟨g4, 0, none⟩) n c4) := ⟨_, rfl⟩
      rw [← hU]
      have sU : ∀ k, k ≠ w.heap.size + 1 → U.heap[k]? = Z.heap[k]? := fun k hk => by rw [hU, Below.heap_setCell _ _ _ _ hk, Below.heap_setCell _ _ _ _ hk, Below.heap_setCell _ _ _ _ hk]
      have zU : U.heap.size = Z.heap.size := by rw [hU]; simp
      have BU : Blk U (w.heap.size + 1) #[.int .i64 0, .slice so sk sc, .slice (some ⟨g4, 0, none⟩) n c4] 64 := by rw [hU]; exact Blk.set (Blk.set (Blk.set HOw.out.2.2 0 _ rfl) 1 _ rfl) 2 _ rfl
      have bU : Below w.heap.size w U := by rw [hU]; exact ((HZ.out.2.1.low.setCell (p := ⟨w.heap.size + 1, 0, none⟩) (by simp) _).setCell (p := ⟨w.heap.size + 1, 1, none⟩) (by simp) _).setCell (p := ⟨w.heap.size + 1, 2, none⟩) (by simp) _
      have KU : U.heap[W0.heap.size]? = some (.deferred (some [])) := (sU _ (by omega)).trans HZ.out.2.2.2
      clear hU k0 k1 k2 q0 q1 q2 qf ql
      refine ⟨by simp, .inl ⟨_, _, rfl, run_takeDeferred KU, ?_⟩⟩
      have bP : Below W0.heap.size U (U.putObj W0.heap.size (.deferred none)) := below_put (Nat.le_refl _) _ (by omega)
      have BP : Blk (U.putObj W0.heap.size (.deferred none)) (w.heap.size + 1) #[.int .i64 0, .slice so sk sc, .slice (some ⟨g4, 0, none⟩) n c4] 64 := (bP.block _ (by omega)).trans BU
      have p0 := BP.cell (j := 0) (v := .int .i64 0) rfl
      have p1 := BP.cell (j := 1) (v := .slice so sk sc) rfl
      have p2 := BP.cell (j := 2) (v := .slice (some ⟨g4, 0, none⟩) n c4) rfl
      have hbs := bP.size
      refine ⟨.agg #[.int .i64 0, .slice so sk sc, .slice (some ⟨g4, 0, none⟩) n c4], by simp [results, Try.results35, go_sem, p0, p1, p2], _, _, w4.heap.size, rfl, ⟨by omega, by omega, Or.inr ⟨rfl, ?_, g4, c4, rfl, ?_⟩⟩, bU.trans (bP.mono (by omega))⟩
      · have e1 := HZ.out.2.2.1.2
        have e2 : (xs.map (tell L)).length = xs.length := by simp
        have ho := HOw.out.2.1
        rw [← e2, ← e1] at ho
        rcases owned_slides ho with ⟨a1, a2⟩ | ⟨gq, cq, a1, a2, a3⟩
        · exact Or.inl ⟨a1, a2⟩
        · have hne : gq ≠ W0.heap.size := fun e => by
            obtain ⟨cc, hcc, _⟩ := a3
            rw [e, HZ.out.2.2.2] at hcc
            cases hcc
          have hlt := a3.lt
          exact Or.inr ⟨gq, cq, a1, by omega, by omega, a3.of_block ((World.putObj_heap_other hne).trans (sU gq (by omega)))⟩
      · rw [HZ.out.2.2.1.1]
        have hc := HZ.out.1.cp
        have hsame : ∀ k, w1.heap.size ≤ k → k < w4.heap.size → (U.putObj W0.heap.size (.deferred none)).heap[k]? = Z.heap[k]? := fun k a b => (World.putObj_heap_other (by omega)).trans (sU k (by omega))
        have hc2 := hc.keep2 (hi := w4.heap.size) (w' := U.putObj W0.heap.size (.deferred none)) H4.out.2.1 (fun i hi => H4.out.2.2.1 i hi) (fun k a b => hsame k a b)
        have hc3 : Cpy w.heap.size (U.putObj W0.heap.size (.deferred none)) g4 n PB PC (apl L xs) := ⟨by omega, hc2.2.1, fun i hi => ⟨by have := (hc2.2.2 i hi).1; omega, (hc2.2.2 i hi).2⟩⟩
        exact hc3.own H4.out.2.1 (fun i hi => H4.out.2.2.1 i hi) H4.out.2.2.2.1
  · have hb : (c != 0) = true := by simpa using hz
    have HZ : Hid (c ≠ 0) := hz
    clear hz
    go_wp2
    refine ⟨.agg #[.int .i64 c, .slice none 0 0, .slice none 0 0], by simp [results, Try.results35, go_sem, r0, r1, r2], _, _, w.heap.size, rfl, ⟨Nat.le_refl _, ?_, Or.inl ⟨HZ.out, rfl, rfl⟩⟩, ?_⟩
    · simp
      have := HB1.out.size
      omega
    · exact BX.out.2.2.trans (Below.setCell (Below.setCell (Below.setCell (HB1.out.mono hXz1) (by simp) _) (by simp) _) (by simp) _)
end Go.Proofs.Ytinfbbbgfkaioaa
end
section
namespace Go.Proofs.Ytinfbbbgfkaioaa
open Go.RowKit
set_option linter.unusedVariables false
set_option linter.unusedSimpArgs false
attribute [local go_sem] Oper.semAt_some
set_option maxRecDepth 20000 in
set_option maxHeartbeats 1600000 in
theorem cloneL0 (b off cap : Nat) (L : Nat → Li) (w : World) :
    Calls Try.prog 90 #[.slice (some ⟨b, off, none⟩) 0 cap] w fun e w' => ∃ g c, e = .returned (.slice (some ⟨g, 0, none⟩) 0 c) ∧ OwLs w.heap.size w'.heap.size w' g 0 L ∧ Below w.heap.size w w' := by
  have q51 : ∀ (w : World), (binOp .eql 30 (.slice (some ⟨b, off, none⟩) 0 cap) (.slice none 0 0)).run Try.prog w = .ok (.bool false) w := fun w => run_eql_nil_slice w 30 80 (some ⟨b, off, none⟩) 0 cap 0 0 Try.underlying30
  go_enter Try.func90, Try.ntmps90
  go_wp2_with (first | (at_builtin; refine app_lits rfl (.tmp 5) (.tmp 6) rfl _ L (fun _ => none) (fun _ => 0) (fun _ => 0) 0 rfl b off cap rfl (fun i hi => absurd hi (Nat.not_lt_zero _)) (by omega) ?_; intro g cp w1 hcp hg hsg hb1))
  have H1 : Hid (OwLs w.heap.size w1.heap.size w1 g 0 L ∧ Below w.heap.size w w1) := ⟨⟨fun _ => 0, fun _ => 0, hg, hsg.lt, hsg.congr (fun i hi => absurd hi (Nat.not_lt_zero _)), fun i hi => absurd hi (Nat.not_lt_zero _), fun i _ hi => absurd hi (Nat.not_lt_zero _)⟩, hb1⟩
  clear hg hsg hb1 hcp
  go_wp2
  go_ret
  exact ⟨g, cp, rfl, H1.out⟩
set_option maxRecDepth 20000 in
set_option maxHeartbeats 1600000 in
theorem copyL0 (b off cap : Nat) (L : Nat → Li) (w : World) :
    Calls Try.prog 54 #[.slice (some ⟨b, off, none⟩) 0 cap] w fun e w' => ∃ g c, e = .returned (.slice (some ⟨g, 0, none⟩) 0 c) ∧ OwLs w.heap.size w'.heap.size w' g 0 L ∧ Below w.heap.size w w' := by
  go_enter Try.func54, Try.ntmps54
  go_wp2_with fail
  refine (cloneL0 b off cap L w).mono ?_
  rintro e w1 ⟨g, c, rfl, h1, h2⟩
  have H1 : Hid (OwLs w.heap.size w1.heap.size w1 g 0 L ∧ Below w.heap.size w w1) := ⟨h1, h2⟩
  clear h1 h2
  go_wp2_with fail
  go_loopw [9] (fun i wr => i = .int .i64 0 ∧ wr = w1) (fun _ _ => 0)
  case atStart => exact ⟨rfl, rfl⟩
  case round =>
    obtain ⟨rfl, hwr⟩ := hrel
    obtain rfl := hwr.symm
    go_wp2
    go_ret
    first | exact ⟨g, c, rfl, H1.out⟩ | exact ⟨g, ⟨c, rfl⟩, H1.out⟩
set_option maxRecDepth 100000 in
set_option maxHeartbeats 4000000 in
theorem its_none {L : Nat → Li} {Bl Br lc : Nat} {a : Option Addr} (n0 : Nat) (C : World → Prop) :
    Runs Fence.wide 5 Try.prog 99 #[.pointer (some ⟨Bl, 0, none⟩), .pointer (some ⟨Br, 0, none⟩)] (encT L) n0 (fun W => W.cell? ⟨Bl, 0, none⟩ = some (.slice a 0 lc) ∧ C W) (fun _ _ _ => False) (fun _ _ => False) (fun xs W => xs = [] ∧ C W) := by
  intro l Bk W hBk hI0 hB0 hY
  have HI : Hid (C W ∧ Bk W) := ⟨hI0.2, hB0⟩
  have c1 := hI0.1
  clear hY hBk hI0 hB0
  refine callsIn_of_wp Try.func99 rfl trivial ?_ rfl
  simp only [Try.ntmps99, List.size_toArray, List.length_cons, List.length_nil, Nat.reduceAdd, Nat.reduceSub, Array.replicate_succ, Array.replicate_zero, List.push_toArray, List.append_toArray, List.nil_append, List.cons_append]
  refine wpIn_wide.2 ?_
  go_wp2_with fail
  go_loopw [4] (fun f wr => ∃ b : Bool, f = .bool b ∧ wr = W) (fun f _ => (match f with | .bool true => 1 | _ => 0))
  case atStart => exact ⟨true, rfl, rfl⟩
  case round =>
    obtain ⟨b, rfl, hwr⟩ := hrel
    obtain rfl := hwr.symm
    cases b with
    | false =>
      go_wp2
      go_end0
      first | exact ⟨⟨_, rfl⟩, ⟨[], rfl, HI.out.1⟩, HI.out.2⟩ | exact ⟨⟨[], rfl, HI.out.1⟩, HI.out.2⟩ | exact ⟨⟨_, rfl⟩, HI.out⟩
    | true =>
      go_wp2_with fail
      go_loopw [4, 10] (fun f i wr => f = .bool false ∧ i = .int .i64 0 ∧ wr = W) (fun _ _ _ => 0)
      case atStart => exact ⟨rfl, rfl, rfl⟩
      case round =>
        obtain ⟨rfl, rfl, hwr⟩ := hrel
        obtain rfl := hwr.symm
        go_wp2
        go_roundw
        case rel => first | exact ⟨false, rfl, rfl⟩ | exact ⟨false, rfl, trivial⟩ | exact ⟨false, trivial⟩ | exact ⟨rfl, trivial⟩ | simp
        case measure => simp
set_option maxRecDepth 100000 in
set_option maxHeartbeats 8000000 in
theorem iTidy_none {w : World} {ao : Option Addr} {nf cp cl lbk lof : Nat} {nodes slots : Int} {F : Nat → Fb} {L : Nat → Li} {c : Int} (hcc : c = Nt.lfault nodes slots nf F 0 L) (h : Rf w (.slice ao nf cp) nf F) (hl : RdL w (.slice (some ⟨lbk, lof, none⟩) 0 cl) 0 L) (hf : nf ≤ 1048576) (hw : LFew 0 L) (hcp : nf ≤ cp) (hd : LBd 0 L) :
    Calls Try.prog 35 #[.agg #[.int .i64 nodes, .int .i64 slots, .slice ao nf cp], .slice (some ⟨lbk, lof, none⟩) 0 cl] w fun e w' => ∃ sv lv mid, e = .returned (.agg #[.int .i64 c, sv, lv]) ∧ (w.heap.size ≤ mid ∧ mid ≤ w'.heap.size ∧ OwnT w.heap.size mid w'.heap.size w' c sv lv (Nt.fin 0 L).sl 0 (Nt.fin 0 L).L) ∧ Below w.heap.size w w' := by
  obtain ⟨X, hX⟩ : ∃ X, X = ((w.alloc (.cells #[.int .i64 nodes, .int .i64 slots, .slice ao nf cp] 37)).alloc (.cells #[.int .i64 0, .slice none 0 0, .slice none 0 0] 64)) := ⟨_, rfl⟩
  have BX : Hid (Blk X w.heap.size #[.int .i64 nodes, .int .i64 slots, .slice ao nf cp] 37 ∧ Blk X (w.heap.size + 1) #[.int .i64 0, .slice none 0 0, .slice none 0 0] 64 ∧ Below w.heap.size w X) := by rw [hX]; exact ⟨(Blk.new rfl).alloc _, Blk.new (by simp), ((Below.refl _ _).alloc (Nat.le_refl _) _).alloc (by simp) _⟩
  have hXz : w.heap.size + 1 < X.heap.size := BX.out.2.1.lt
  have hXz1 : w.heap.size ≤ X.heap.size := by omega
  have H : ∀ W, Below X.heap.size X W → Hid (Rf W (.slice ao nf cp) nf F ∧ RdL W (.slice (some ⟨lbk, lof, none⟩) 0 cl) 0 L) := fun W hb => ⟨h.later (BX.out.2.2.trans (hb.mono hXz1)), hl.later (BX.out.2.2.trans (hb.mono hXz1))⟩
  have hcall := rowsOf_any (nodes := nodes) (slots := slots) (H _ (Below.refl _ _)).out.1 (H _ (Below.refl _ _)).out.2 hf hw hcp hd
  have HW : Hid (LFew 0 L) := hw
  have HCC : Hid (c = Nt.lfault nodes slots nf F 0 L) := hcc
  clear h hl hw hd hcc
  have x0 := BX.out.1.cell (j := 0) (v := .int .i64 nodes) rfl
  have x1 := BX.out.1.cell (j := 1) (v := .int .i64 slots) rfl
  have x2 := BX.out.1.cell (j := 2) (v := .slice ao nf cp) rfl
  refine (callsIn_wide (n := 6)).1 ?_
  refine callsIn_of_wp_marks Try.func35 rfl trivial ?_ rfl
  simp only [Try.ntmps35, List.size_toArray, List.length_cons, List.length_nil, Nat.reduceAdd, Nat.reduceSub, Array.replicate_succ, Array.replicate_zero, List.push_toArray, List.append_toArray, List.nil_append, List.cons_append]
  refine wpIn_wide.2 ?_
  go_upto_region 1 with fail
  rw [← hX]
  clear hX
  go_wp2_with fail
  refine hcall.mono ?_
  rintro e w1 ⟨v, rfl, htab, hb1⟩
  clear x0 x1 x2 hcall
  have HTb : Hid (Tab X.heap.size w1.heap.size w1 (Nt.lfault nodes slots nf F 0 L) v nf slots.toNat (fun f s => Nt.bk L 0 f s)) := htab
  have HB1 : Hid (Below X.heap.size X w1) := hb1
  clear htab hb1
  rw [← HCC.out]
  have hR := BX.out.2.1.old HB1.out
  have r0 := hR.cell (j := 0) (v := .int .i64 0) rfl
  have r1 := hR.cell (j := 1) (v := .slice none 0 0) rfl
  have r2 := hR.cell (j := 2) (v := .slice none 0 0) rfl
  have rf := hR.frozen
  have rl := hR.lt
  clear hR
  by_cases hz : c = 0
  · have hb : (c != 0) = false := by simpa using hz
    have hfl : Nt.lfault nodes slots nf F 0 L = 0 := by rw [← HCC.out]; exact hz
    subst hz
    obtain ⟨vo, vn, vc, rfl⟩ : ∃ vo vn vc, v = .slice vo vn vc := by
      rcases HTb.out with ⟨_, a⟩ | ⟨_, g, cap, bs, a, _⟩
      · exact ⟨_, _, _, a⟩
      · exact ⟨_, _, _, a⟩
    clear HTb hfl r0 r1 r2 rf rl
    go_wp2_with fail
    refine (copyL0 lbk lof cl L w1).mono ?_
    rintro e w4 ⟨g4, c4, rfl, how, hb4⟩
    have H4 : Hid (OwLs w1.heap.size w4.heap.size w4 g4 0 L ∧ Below X.heap.size X w4 ∧ Below w1.heap.size w1 w4) := ⟨how, HB1.out.trans (hb4.mono HB1.out.size), hb4⟩
    clear how hb4
    obtain ⟨Y, hY⟩ : ∃ Y, Y = w4.alloc (.cells #[.int .i64 0, .slice none 0 0, .slice (some ⟨g4, 0, none⟩) 0 c4] 64) := ⟨_, rfl⟩
    have BY : Hid (Blk Y w4.heap.size #[.int .i64 0, .slice none 0 0, .slice (some ⟨g4, 0, none⟩) 0 c4] 64 ∧ Below w4.heap.size w4 Y ∧ Y.heap.size = w4.heap.size + 1) := by rw [hY]; exact ⟨Blk.new rfl, (Below.refl _ _).alloc (Nat.le_refl _) _, by simp⟩
    go_upto_region 5 with fail
    rw [← hY]
    clear hY
    have y2 := BY.out.1.cell (j := 2) (v := .slice (some ⟨g4, 0, none⟩) 0 c4) rfl
    go_wp2_with (go_at_call 75; refine (slides_any _ _ ⟨_, _, _, rfl⟩ ⟨_, _, _, rfl⟩ _).mono ?_; rintro e w5 ⟨rfl, hw5⟩)
    clear y2 hw5
    obtain ⟨W0, hW0⟩ : ∃ W0, W0 = (Y.alloc (.cells #[.slice vo vn vc] 101)).alloc (.cells #[.slice (some ⟨g4, 0, none⟩) 0 c4] 30) := ⟨_, rfl⟩
    have B0 : Hid (Blk W0 Y.heap.size #[.slice vo vn vc] 101 ∧ Blk W0 (Y.heap.size + 1) #[.slice (some ⟨g4, 0, none⟩) 0 c4] 30 ∧ Below Y.heap.size Y W0 ∧ W0.heap.size = Y.heap.size + 2) := by rw [hW0]; exact ⟨(Blk.new rfl).alloc _, Blk.new (by simp), ((Below.refl _ _).alloc (Nat.le_refl _) _).alloc (by simp) _, by simp⟩
    rw [← hW0]
    clear hW0
    have z1 := HB1.out.size
    have z2 := H4.out.2.2.size
    have z3 := BY.out.2.2
    have z4 := B0.out.2.2.2
    have z5 : g4 < w4.heap.size ∧ w1.heap.size ≤ g4 := by obtain ⟨PB, PC, a, b, _⟩ := H4.out.1; exact ⟨b, a⟩
    have D4 : Hid (Below w4.heap.size w4 W0 ∧ Below w1.heap.size w1 W0 ∧ Below w.heap.size w W0) := by
      have a : Below w4.heap.size w4 W0 := BY.out.2.1.trans (B0.out.2.2.1.mono BY.out.2.1.size)
      exact ⟨a, H4.out.2.2.trans (a.mono z2), BX.out.2.2.trans ((H4.out.2.1.trans (a.mono (by omega))).mono hXz1)⟩
    have CS0 : Cs w W0.heap.size w4.heap.size (w.heap.size + 1) (.slice (some ⟨g4, 0, none⟩) 0 c4) L [] W0 := ⟨⟨.slice none 0 0, BY.out.1.old B0.out.2.2.1, ownsV_nil _ _ _ _⟩, (BX.out.2.1.old H4.out.2.1).old D4.out.1, D4.out.2.2, Nat.le_refl _⟩
    have b1 := B0.out.2.1.cell (j := 0) (v := .slice (some ⟨g4, 0, none⟩) 0 c4) rfl
    refine (wpIn_wide (n := 6)).1 ?_
    refine range_runs (α := Nat × Nat) rfl (by omega) (gf := 99) (lb := #[.pointer (some ⟨Y.heap.size + 1, 0, none⟩), .pointer (some ⟨Y.heap.size, 0, none⟩)]) rfl trivial (enters_of Try.func99 (by kernel_rfl) rfl) (encs := encT L) (fun _ => rfl)
      (its_none (L := L) (Bl := Y.heap.size + 1) (Br := Y.heap.size) (a := some ⟨g4, 0, none⟩) (lc := c4) W0.heap.size (fun W => Cs w W0.heap.size w4.heap.size (w.heap.size + 1) (.slice (some ⟨g4, 0, none⟩) 0 c4) L [] W ∧ W.heap[g4]? = w4.heap[g4]?))
      (fun o o' => ?h0) (fun xs A l o' hI hl hr => ?h2) (fun l pre x A K hl hr hI hK => ?hround) (fun l o xs A hl hE hr hdf => ?hend)
    case h0 =>
      have hb : Below W0.heap.size W0 ((W0.alloc o).alloc o') := ((Below.refl _ _).alloc (Nat.le_refl _) _).alloc (by simp) _
      exact ⟨(hb.cell (World.block_lt_of_cell? _ _ b1)).trans b1, CS0.later hb, (hb.block g4 (by omega)).trans (D4.out.1.block g4 z5.1)⟩
    case h2 => exact hI.elim
    case hround => exact hI.elim
    case hend =>
      obtain ⟨r, hr⟩ := hr
      obtain ⟨rfl, hCs, hg4⟩ := hE
      obtain ⟨xs, hxs⟩ : ∃ xs : List (Nat × Nat), xs = [] := ⟨_, rfl⟩
      rw [← hxs] at hCs
      have hSy : Sy L (Nt.fin 0 L) xs := by rw [hxs]; exact ⟨rfl, rfl⟩
      obtain ⟨Z, hZ⟩ : ∃ Z, Z = A.putObj l o := ⟨_, rfl⟩
      have HZ : Hid (True ∧ Cs w W0.heap.size w4.heap.size (w.heap.size + 1) (.slice (some ⟨g4, 0, none⟩) 0 c4) L xs Z ∧ Sy L (Nt.fin 0 L) xs ∧ Z.heap[W0.heap.size]? = some (.deferred (some [])) ∧ Z.heap[g4]? = w4.heap[g4]?) := by
        rw [hZ]
        exact ⟨trivial, hCs.put hr (by omega) (by omega) o, hSy, (World.putObj_heap_other (by omega)).trans hdf, (World.putObj_heap_other (by omega)).trans hg4⟩
      rw [← hZ]
      clear hZ hCs hSy hdf hr hxs hg4
      obtain ⟨sv, hkt, hown⟩ := HZ.out.2.1.ex
      have hrb := HZ.out.2.1.rb
      have hszZ := HZ.out.2.1.sz
      obtain ⟨so, sk, sc, hsv⟩ : ∃ so sk sc, sv = .slice so sk sc := by
        have e : (xs.map (tell L)).length = xs.length := by simp
        rw [← e] at hown
        rcases owned_slides hown with ⟨_, e⟩ | ⟨gq, cq, e, _⟩
        · exact ⟨_, _, _, e⟩
        · exact ⟨_, _, _, e⟩
      subst hsv
      have k0 := hkt.cell (j := 0) (v := .int .i64 0) rfl
      have k1 := hkt.cell (j := 1) (v := .slice so sk sc) rfl
      have k2 := hkt.cell (j := 2) (v := .slice (some ⟨g4, 0, none⟩) 0 c4) rfl
      have q0 := hrb.cell (j := 0) (v := .int .i64 0) rfl
      have q1 := hrb.cell (j := 1) (v := .slice none 0 0) rfl
      have q2 := hrb.cell (j := 2) (v := .slice none 0 0) rfl
      have qf := hrb.frozen
      have ql := hrb.lt
      have HOw : Hid (Blk Z w4.heap.size #[.int .i64 0, .slice so sk sc, .slice (some ⟨g4, 0, none⟩) 0 c4] 64 ∧ Z.ownsRow W0.heap.size 55 2 (.slice so sk sc) xs.length (fl (xs.map (tell L))) ∧ Blk Z (w.heap.size + 1) #[.int .i64 0, .slice none 0 0, .slice none 0 0] 64) := ⟨hkt, hown, hrb⟩
      clear hkt hown hrb
      dsimp only
      go_wp2
      obtain ⟨U, hU⟩ : ∃ U, U = ((Z.setCell ⟨w.heap.size + 1, 0, none⟩ (.int .i64 0)).setCell ⟨w.heap.size + 1, 1, none⟩ (.slice so sk sc)).setCell ⟨w.heap.size + 1, 2, none⟩ (.slice (some ⟨g4, 0, none⟩) 0 c4) := ⟨_, rfl⟩
      rw [← hU]
      have sU : ∀ k, k ≠ w.heap.size + 1 → U.heap[k]? = Z.heap[k]? := fun k hk => by rw [hU, Below.heap_setCell _ _ _ _ hk, Below.heap_setCell _ _ _ _ hk, Below.heap_setCell _ _ _ _ hk]
      have zU : U.heap.size = Z.heap.size := by rw [hU]; simp
      have BU : Blk U (w.heap.size + 1) #[.int .i64 0, .slice so sk sc, .slice (some ⟨g4, 0, none⟩) 0 c4] 64 := by rw [hU]; exact Blk.set (Blk.set (Blk.set HOw.out.2.2 0 _ rfl) 1 _ rfl) 2 _ rfl
      have bU : Below w.heap.size w U := by rw [hU]; exact ((HZ.out.2.1.low.setCell (p := ⟨w.heap.size + 1, 0, none⟩) (by simp) _).setCell (p := ⟨w.heap.size + 1, 1, none⟩) (by simp) _).setCell (p := ⟨w.heap.size + 1, 2, none⟩) (by simp) _
      have KU : U.heap[W0.heap.size]? = some (.deferred (some [])) := (sU _ (by omega)).trans HZ.out.2.2.2.1
      clear hU k0 k1 k2 q0 q1 q2 qf ql
      refine ⟨by simp, .inl ⟨_, _, rfl, run_takeDeferred KU, ?_⟩⟩
      have bP : Below W0.heap.size U (U.putObj W0.heap.size (.deferred none)) := below_put (Nat.le_refl _) _ (by omega)
      have BP : Blk (U.putObj W0.heap.size (.deferred none)) (w.heap.size + 1) #[.int .i64 0, .slice so sk sc, .slice (some ⟨g4, 0, none⟩) 0 c4] 64 := (bP.block _ (by omega)).trans BU
      have p0 := BP.cell (j := 0) (v := .int .i64 0) rfl
      have p1 := BP.cell (j := 1) (v := .slice so sk sc) rfl
      have p2 := BP.cell (j := 2) (v := .slice (some ⟨g4, 0, none⟩) 0 c4) rfl
      have hbs := bP.size
      refine ⟨.agg #[.int .i64 0, .slice so sk sc, .slice (some ⟨g4, 0, none⟩) 0 c4], by simp [results, Try.results35, go_sem, p0, p1, p2], _, _, w4.heap.size, rfl, ⟨by omega, by omega, Or.inr ⟨rfl, ?_, g4, c4, rfl, ?_⟩⟩, bU.trans (bP.mono (by omega))⟩
      · have e1 := HZ.out.2.2.1.2
        have e2 : (xs.map (tell L)).length = xs.length := by simp
        have ho := HOw.out.2.1
        rw [← e2, ← e1] at ho
        rcases owned_slides ho with ⟨a1, a2⟩ | ⟨gq, cq, a1, a2, a3⟩
        · exact Or.inl ⟨a1, a2⟩
        · have hne : gq ≠ W0.heap.size := fun e => by
            obtain ⟨cc, hcc, _⟩ := a3
            rw [e, HZ.out.2.2.2.1] at hcc
            cases hcc
          have hlt := a3.lt
          exact Or.inr ⟨gq, cq, a1, by omega, by omega, a3.of_block ((World.putObj_heap_other hne).trans (sU gq (by omega)))⟩
      · obtain ⟨PB, PC, a1, a2, a3, a4, a5⟩ := H4.out.1
        exact ⟨PB, PC, by omega, a2, (a3.of_block (((World.putObj_heap_other (by omega)).trans (sU g4 (by omega))).trans HZ.out.2.2.2.2)).congr fun i hi => absurd hi (Nat.not_lt_zero _), fun i hi => absurd hi (Nat.not_lt_zero _), fun i _ hi => absurd hi (Nat.not_lt_zero _)⟩
  · have hb : (c != 0) = true := by simpa using hz
    have HZ : Hid (c ≠ 0) := hz
    clear hz
    go_wp2
    refine ⟨.agg #[.int .i64 c, .slice none 0 0, .slice none 0 0], by simp [results, Try.results35, go_sem, r0, r1, r2], _, _, w.heap.size, rfl, ⟨Nat.le_refl _, ?_, Or.inl ⟨HZ.out, rfl, rfl⟩⟩, ?_⟩
    · simp
      have := HB1.out.size
      omega
    · exact BX.out.2.2.trans (Below.setCell (Below.setCell (Below.setCell (HB1.out.mono hXz1) (by simp) _) (by simp) _) (by simp) _)
end Go.Proofs.Ytinfbbbgfkaioaa
end
section
namespace Go.Proofs.Ytinfbbbgfkaioaa
open Go.RowKit
set_option linter.unusedVariables false
set_option linter.unusedSimpArgs false
theorem lf_ok {nodes slots : Int} {nf : Nat} {F : Nat → Fb} {n : Nat} {L : Nat → Li} (hN : Nt.nfault nodes slots nf F = 0) (hn : n ≤ 40) (hO : Nt.AllOk nodes slots nf F n L) : Nt.lfault nodes slots nf F n L = 0 := by
  rw [lf_fst hN (by omega)]
  have s64 := (Nt.nf_good hN).s64
  have key : ∀ k, k ≤ n → Nt.fst (Nt.lcode nodes slots nf F L) k = 0 := fun k => by
    induction k with
    | zero => intro _; rfl
    | succ k ih =>
      intro hk
      have o := hO.ok k (by omega)
      have a1 := o.id1
      have a2 := o.w1
      have a3 := o.f0
      have a4 := o.top
      refine Nt.fst_next (ih (by omega)) (lc_nil ?_ o.rf ?_ (Nt.any_false fun j hj => hO.apart k (by omega) j hj))
      · rintro (h | ⟨h1, h2⟩)
        · omega
        · have := hO.ids (j := k) (i := k - 1) (by omega) (by omega)
          omega
      · unfold Nt.rngB
        simp only [Bool.or_eq_false_iff, decide_eq_false_iff_not]
        omega
  exact key n (Nat.le_refl _)
theorem stp_np (n : Nat) (s : Nt.Td) (i j : Nat) : ((Nt.stp2 n s i).L j).np = (s.L j).np := by
  by_cases h : Nt.lwt n s.L i < (s.L i).fi.toNat
  · rw [Nt.stp_go h]; exact Nt.mov_np _ _ _ _
  · rw [Nt.stp_stay h]
theorem pss_np (n : Nat) (s : Nt.Td) (j : Nat) : ∀ i, ((Nt.pss n s i).L j).np = (s.L j).np
  | 0 => rfl
  | i + 1 => (stp_np n (Nt.pss n s i) i j).trans (pss_np n s j i)
theorem rds_np (n : Nat) (j : Nat) : ∀ (r : Nat) (s : Nt.Td), ((Nt.rds n r s).L j).np = (s.L j).np
  | 0, s => rfl
  | r + 1, s => (rds_np n j r (Nt.pss n s n)).trans (pss_np n s j n)
theorem few_np {n : Nat} {L M : Nat → Li} (h : LFew n L) (e : ∀ i, (M i).np = (L i).np) : LFew n M := by
  have e2 : (fun i => (M i).np) = fun i => (L i).np := funext e
  exact ⟨h.cn, by show Sm (fun i => (M i).np) n ≤ _; rw [e2]; exact h.cs⟩
theorem step_pushV {ops : Array Oper} {o : Oper} {a : Act} {K : Act → World → Prop} {Q : Exit → Act → World → Prop} {E : Prop} (hgd : o.guard = none) (s x : Operand) (t : TypeId)
    (ho : o.op = .call { callee := .builtin .append, args := #[s, x], argTypes := #[t, t] }) (e : TypeId) (z : Value) (m bytes : Nat) (ht : Try.prog.underlying t = some (.slice e))
    (hinfo : (Try.prog.info? e).map (fun i => (i.zero, i.size, i.bytes)) = some (some z, m, bytes)) (hz1 : z.cells.size = m) (hm : 0 < m) (hby : bytes ≤ 100) (w : World) (us : List Value) (hul : us.length = m) (hu : ∀ u ∈ us, u.oneCell' = true)
    (base : Nat) (v : Value) (n : Nat) (xs : List Value) (hs : a.eval s = v) (hown : w.ownsRow base e m v n xs) (c : Nat) (hx : a.eval x = .slice (some ⟨w.heap.size, 0, none⟩) 1 c) (hn : n ≤ 1000000000) (hbase : base ≤ w.heap.size)
    (h : ∀ v' w', w'.ownsRow base e m v' (n + 1) (xs ++ us) → (w.alloc (.cells us.toArray e)).grownBy w' v.ownBlock → K (a.put o.dst v') w') :
    if Region.wanted o (yielded ops a.tmps) = true then Oper.wp Try.prog o a (w.alloc (.cells us.toArray e)) K Q else E := by
  obtain ⟨i, h1, h2, h3, h4⟩ := infoV_parts hinfo
  refine step_append_lies _ hgd s x t ho base e i z m bytes ht h1 h2 h3 h4 hz1 hm v n xs hs (hown.alloc _) ⟨w.heap.size, 0, none⟩ 1 c us hx (by omega) ?_ hu (by decide) ?_ ?_ ?_ _ rfl fun g cap w' a1 a2 _ _ => h _ w' a1 a2
  · intro j y hj
    have : (w.alloc (.cells us.toArray e)).heap[w.heap.size]? = some (.cells us.toArray e) := heap_alloc_new _ _
    have e0 : (⟨w.heap.size, 0, none⟩ : Addr).add j = ⟨w.heap.size, j, none⟩ := by
      unfold Addr.add
      split
      · rename_i h; subst h; rfl
      · simp
    rw [e0]
    unfold World.cell?
    rw [this]
    simpa using hj
  · unfold maxLen; omega
  · have : (n + 1) * bytes ≤ (n + 1) * 100 := Nat.mul_le_mul_left _ hby
    omega
  · simp; omega
/-- In a right list LowestSlide of a light's own Id is how far down it can go. -/
theorem ls_own {nodes slots : Int} {nf : Nat} {F : Nat → Fb} {n : Nat} {L : Nat → Li} (hN : Nt.nfault nodes slots nf F = 0) (hn : n ≤ 40) (hO : Nt.AllOk nodes slots nf F n L) {k : Nat} (hk : k < n) : lslide nodes slots nf F n L (L k).id = ((Nt.lwt n L k : Nat) : Int) := by
  have hz : Nt.lfault nodes slots nf F n L = 0 := lf_ok hN hn hO
  have hf : fnd L (L k).id n = (k : Int) := by
    have hne : fnd L (L k).id n ≠ -1 := fun e => fnd_no e k hk rfl
    obtain ⟨j, hj, e1, e2⟩ := fnd_is hne
    rw [e1, hO.id_one hj hk e2]
  rw [ls_is hz hf, Nt.low_same hO hk]
  rfl
/-- What the loop of the specification's TidyNet knows: kt holds the answer so far, its lights lie in block g, its slides from base on. -/
structure Ss (w : World) (base kt rb nb cb g n c4 : Nat) (PB PC : Nat → Nat) (net : Array Value) (s : Nt.Td) (W : World) : Prop where
  ex : ∃ v, Blk W kt #[.int .i64 0, v, .slice (some ⟨g, 0, none⟩) n c4] 64 ∧ W.ownsRow base 55 2 v s.sl.length (fl s.sl)
  cp : Cpy cb W g n PB PC s.L
  rb : Blk W rb #[.int .i64 0, .slice none 0 0, .slice none 0 0] 64
  nb : Blk W nb net 37
  low : Below w.heap.size w W
  sz : base ≤ W.heap.size
theorem Ss.later {w : World} {base kt rb nb cb g n c4 : Nat} {PB PC : Nat → Nat} {net : Array Value} {s : Nt.Td} {X Y : World} (h : Ss w base kt rb nb cb g n c4 PB PC net s X) (hb : Below X.heap.size X Y) : Ss w base kt rb nb cb g n c4 PB PC net s Y := by
  obtain ⟨v, h1, h2⟩ := h.ex
  exact ⟨⟨v, h1.old hb, ownsV_later h2 hb⟩, h.cp.later hb, h.rb.old hb, h.nb.old hb, h.low.trans (hb.mono h.low.size), Nat.le_trans h.sz hb.size⟩
/-- What TidyNet answers, to be read: lights from lo on, below mid; slides from mid on, below hi. -/
def OutT (lo mid hi : Nat) (w : World) (c : Int) (sv lv : Value) (xs : List (Int × Int)) (n : Nat) (L : Nat → Li) : Prop :=
  (c ≠ 0 ∧ sv = .slice none 0 0 ∧ lv = .slice none 0 0) ∨ (c = 0 ∧ ((xs = [] ∧ sv = .slice none 0 0) ∨ ∃ g cap, sv = .slice (some ⟨g, 0, none⟩) xs.length cap ∧ mid ≤ g ∧ g < hi ∧ SegV w g 55 xs.length 2 (scl xs)) ∧
    ∃ g cap PB PC, lv = .slice (some ⟨g, 0, none⟩) n cap ∧ Cpy lo w g n PB PC L ∧ g < mid ∧ ∀ i, i < n → PB i < mid)
set_option maxRecDepth 100000 in
set_option maxHeartbeats 8000000 in
theorem sTidy_any {w : World} {ao lo : Option Addr} {nf cp n cl : Nat} {nodes slots : Int} {F : Nat → Fb} {L : Nat → Li} {c : Int} (hcc : c = Nt.lfault nodes slots nf F n L) (h : Rf w (.slice ao nf cp) nf F) (hl : RdL w (.slice lo n cl) n L) (hf : nf ≤ 1048576) (hw : LFew n L) :
    Calls Try.prog 34 #[.agg #[.int .i64 nodes, .int .i64 slots, .slice ao nf cp], .slice lo n cl] w fun e w' => ∃ sv lv mid, e = .returned (.agg #[.int .i64 c, sv, lv]) ∧ (w.heap.size ≤ mid ∧ mid ≤ w'.heap.size ∧ OutT w.heap.size mid w'.heap.size w' c sv lv (Nt.fin n L).sl n (Nt.fin n L).L) ∧ Below w.heap.size w w' := by
  obtain ⟨X, hX⟩ : ∃ X, X = ((w.alloc (.cells #[.int .i64 nodes, .int .i64 slots, .slice ao nf cp] 37)).alloc (.cells #[.int .i64 0, .slice none 0 0, .slice none 0 0] 64)) := ⟨_, rfl⟩
  have BX : Hid (Blk X w.heap.size #[.int .i64 nodes, .int .i64 slots, .slice ao nf cp] 37 ∧ Blk X (w.heap.size + 1) #[.int .i64 0, .slice none 0 0, .slice none 0 0] 64 ∧ Below w.heap.size w X) := by rw [hX]; exact ⟨(Blk.new rfl).alloc _, Blk.new (by simp), ((Below.refl _ _).alloc (Nat.le_refl _) _).alloc (by simp) _⟩
  have hXz : w.heap.size + 1 < X.heap.size := BX.out.2.1.lt
  have hXz1 : w.heap.size ≤ X.heap.size := by omega
  have H : ∀ W, Below w.heap.size w W → Hid (Rf W (.slice ao nf cp) nf F ∧ RdL W (.slice lo n cl) n L) := fun W hb => ⟨h.later hb, hl.later hb⟩
  have hcall := sLf_any (nodes := nodes) (slots := slots) (H _ BX.out.2.2).out.1 (H _ BX.out.2.2).out.2 hf hw
  have HW : Hid (LFew n L) := hw
  have HCC : Hid (c = Nt.lfault nodes slots nf F n L) := hcc
  clear h hl hw hcc
  have x0 := BX.out.1.cell (j := 0) (v := .int .i64 nodes) rfl
  have x1 := BX.out.1.cell (j := 1) (v := .int .i64 slots) rfl
  have x2 := BX.out.1.cell (j := 2) (v := .slice ao nf cp) rfl
  go_enter Try.func34, Try.ntmps34
  go_upto_region 1 with fail
  rw [← hX]
  clear hX
  go_wp2_with fail
  refine hcall.mono ?_
  rintro e w1 ⟨rfl, hb1⟩
  clear x0 x1 x2 hcall
  have HB1 : Hid (Below X.heap.size X w1 ∧ Below w.heap.size w w1) := ⟨hb1, BX.out.2.2.trans (hb1.mono hXz1)⟩
  clear hb1
  rw [← HCC.out]
  have hR := BX.out.2.1.old HB1.out.1
  have r0 := hR.cell (j := 0) (v := .int .i64 0) rfl
  have r1 := hR.cell (j := 1) (v := .slice none 0 0) rfl
  have r2 := hR.cell (j := 2) (v := .slice none 0 0) rfl
  have rf := hR.frozen
  have rl := hR.lt
  clear hR
  by_cases hz : c = 0
  · have hb : (c != 0) = false := by simpa using hz
    have hfl : Nt.lfault nodes slots nf F n L = 0 := by rw [← HCC.out]; exact hz
    subst hz
    obtain ⟨G, hn40, hO⟩ := lf_good hfl
    have hN : Nt.nfault nodes slots nf F = 0 := by
      by_cases e : Nt.nfault nodes slots nf F = 0
      · exact e
      · rw [lf_net e] at hfl; exact absurd hfl e
    have HG : Hid (Nt.nfault nodes slots nf F = 0 ∧ Nt.AllOk nodes slots nf F n L ∧ Nt.Good nodes slots nf F) := ⟨hN, hO, G⟩
    clear G hO hfl hN r0 r1 r2 rf rl
    go_wp2_with fail
    refine (sCpy_any (H w1 HB1.out.2).out.2 HW.out (fun i hi => (HG.out.2.1.ok i hi).one)).mono ?_
    rintro e w4 ⟨g4, c4, PB, PC, rfl, hcp4, hb4⟩
    have H4 : Hid (Cpy w1.heap.size w4 g4 n PB PC L ∧ g4 < w4.heap.size ∧ (∀ i, i < n → PB i < w4.heap.size) ∧ Below X.heap.size X w4 ∧ Below w1.heap.size w1 w4) := ⟨hcp4, hcp4.2.1.lt, fun i hi => (hcp4.2.2 i hi).2.lt, HB1.out.1.trans (hb4.mono HB1.out.1.size), hb4⟩
    clear hcp4 hb4
    obtain ⟨W0, hW0⟩ : ∃ Y, Y = w4.alloc (.cells #[.int .i64 0, .slice none 0 0, .slice (some ⟨g4, 0, none⟩) n c4] 64) := ⟨_, rfl⟩
    have BY : Hid (Blk W0 w4.heap.size #[.int .i64 0, .slice none 0 0, .slice (some ⟨g4, 0, none⟩) n c4] 64 ∧ Below w4.heap.size w4 W0 ∧ W0.heap.size = w4.heap.size + 1) := by rw [hW0]; exact ⟨Blk.new rfl, (Below.refl _ _).alloc (Nat.le_refl _) _, by simp⟩
    go_upto_region 5 with fail
    rw [← hW0]
    clear hW0
    have z1 := HB1.out.1.size
    have z2 := H4.out.2.2.2.2.size
    have z4 : w4.heap.size < W0.heap.size := BY.out.1.lt
    have z5 := H4.out.2.1
    have z6 := H4.out.1.1
    have zP : Hid (∀ i, i < n → w1.heap.size ≤ PB i ∧ PB i < w4.heap.size) := fun i hi => ⟨(H4.out.1.2.2 i hi).1, H4.out.2.2.1 i hi⟩
    have hnI : (n : Int) ≤ 40 := by omega
    have S0 : Hid (Ss w W0.heap.size w4.heap.size (w.heap.size + 1) w.heap.size w1.heap.size g4 n c4 PB PC #[.int .i64 nodes, .int .i64 slots, .slice ao nf cp] ⟨L, []⟩ W0) := ⟨⟨.slice none 0 0, BY.out.1, ownsV_nil _ _ _ _⟩, H4.out.1.later BY.out.2.1, (BX.out.2.1.old H4.out.2.2.2.1).old BY.out.2.1, (BX.out.1.old H4.out.2.2.2.1).old BY.out.2.1, BX.out.2.2.trans ((H4.out.2.2.2.1.trans (BY.out.2.1.mono (by omega))).mono hXz1), Nat.le_refl _⟩
    go_wp2_with fail
    go_loopw [7] (fun f wr => ∃ (b : Bool) (r : Nat), f = .bool b ∧ Hid ((b = false → Nt.pss n (Nt.rds n r ⟨L, []⟩) n = Nt.rds n r ⟨L, []⟩) ∧ Ss w W0.heap.size w4.heap.size (w.heap.size + 1) w.heap.size w1.heap.size g4 n c4 PB PC #[.int .i64 nodes, .int .i64 slots, .slice ao nf cp] (Nt.rds n r ⟨L, []⟩) wr)) (fun f wr => 2 * wsum g4 n wr + (match f with | .bool true => 1 | _ => 0))
    case atStart => exact ⟨true, 0, rfl, fun h => absurd h (by decide), S0.out⟩
    case round =>
      obtain ⟨b, r, rfl, HR⟩ := hrel
      cases b with
      | false =>
        have HE : Hid (Nt.rds n r ⟨L, []⟩ = Nt.fin n L) := Nt.fin_is (HR.out.1 rfl)
        have HS : Hid (Ss w W0.heap.size w4.heap.size (w.heap.size + 1) w.heap.size w1.heap.size g4 n c4 PB PC #[.int .i64 nodes, .int .i64 slots, .slice ao nf cp] (Nt.fin n L) wr) := by rw [← HE.out]; exact HR.out.2
        obtain ⟨sv, hkt, hown⟩ := HS.out.ex
        obtain ⟨so, sk, sc, hsv⟩ : ∃ so sk sc, sv = .slice so sk sc := by
          rcases owned_slides hown with ⟨_, e⟩ | ⟨gq, cq, e, _⟩
          · exact ⟨_, _, _, e⟩
          · exact ⟨_, _, _, e⟩
        subst hsv
        have hrb := HS.out.rb
        have k0 := hkt.cell (j := 0) (v := .int .i64 0) rfl
        have k1 := hkt.cell (j := 1) (v := .slice so sk sc) rfl
        have k2 := hkt.cell (j := 2) (v := .slice (some ⟨g4, 0, none⟩) n c4) rfl
        have q0 := hrb.cell (j := 0) (v := .int .i64 0) rfl
        have q1 := hrb.cell (j := 1) (v := .slice none 0 0) rfl
        have q2 := hrb.cell (j := 2) (v := .slice none 0 0) rfl
        have qf := hrb.frozen
        have ql := hrb.lt
        have HOw : Hid (wr.ownsRow W0.heap.size 55 2 (.slice so sk sc) (Nt.fin n L).sl.length (fl (Nt.fin n L).sl)) := hown
        have hsz := HS.out.sz
        clear hkt hown hrb HE HR
        go_wp2
        refine bodyPost_ret (v := .agg #[.int .i64 0, .slice so sk sc, .slice (some ⟨g4, 0, none⟩) n c4]) (by simp [results, Try.results34, go_sem, q0, q1, q2]) rfl ⟨_, _, w4.heap.size, rfl, ⟨by omega, by simp; omega, Or.inr ⟨rfl, ?_, g4, c4, PB, PC, rfl, ?_, H4.out.2.1, H4.out.2.2.1⟩⟩, ?_⟩
        · have sU : ∀ k, k ≠ w.heap.size + 1 → (((wr.setCell ⟨w.heap.size + 1, 0, none⟩ (.int .i64 0)).setCell ⟨w.heap.size + 1, 1, none⟩ (.slice so sk sc)).setCell ⟨w.heap.size + 1, 2, none⟩ (.slice (some ⟨g4, 0, none⟩) n c4)).heap[k]? = wr.heap[k]? := fun k hk => by rw [Below.heap_setCell _ _ _ _ hk, Below.heap_setCell _ _ _ _ hk, Below.heap_setCell _ _ _ _ hk]
          rcases owned_slides HOw.out with ⟨a1, a2⟩ | ⟨gq, cq, a1, a2, a3⟩
          · exact Or.inl ⟨a1, a2⟩
          · have hlt := a3.lt
            exact Or.inr ⟨gq, cq, a1, by omega, by simp; omega, a3.of_block (sU gq (by omega))⟩
        · have hc := HS.out.cp.keep2 (hi := w4.heap.size) (w' := (((wr.setCell ⟨w.heap.size + 1, 0, none⟩ (.int .i64 0)).setCell ⟨w.heap.size + 1, 1, none⟩ (.slice so sk sc)).setCell ⟨w.heap.size + 1, 2, none⟩ (.slice (some ⟨g4, 0, none⟩) n c4))) H4.out.2.1 (fun i hi => H4.out.2.2.1 i hi) (fun k a b => by
            have e : k ≠ w.heap.size + 1 := by omega
            rw [Below.heap_setCell _ _ _ _ e, Below.heap_setCell _ _ _ _ e, Below.heap_setCell _ _ _ _ e])
          exact ⟨by omega, hc.2.1, fun i hi => ⟨by have := (hc.2.2 i hi).1; omega, (hc.2.2 i hi).2⟩⟩
        · exact ((HS.out.low.setCell (p := ⟨w.heap.size + 1, 0, none⟩) (by simp) _).setCell (p := ⟨w.heap.size + 1, 1, none⟩) (by simp) _).setCell (p := ⟨w.heap.size + 1, 2, none⟩) (by simp) _
      | true =>
        obtain ⟨s, hs⟩ : ∃ s, s = Nt.rds n r ⟨L, []⟩ := ⟨_, rfl⟩
        have HS : Hid (s = Nt.rds n r ⟨L, []⟩ ∧ Nt.AllOk nodes slots nf F n s.L ∧ ∀ j, (s.L j).np = (L j).np) := ⟨hs, by rw [hs]; exact Nt.rds_ok HG.out.2.1, fun j => by rw [hs]; exact rds_np n j r _⟩
        obtain ⟨w0, hw0⟩ : ∃ w0, w0 = wr := ⟨_, rfl⟩
        have HW0 : Hid (wsum g4 n w0 = Nt.fsum s.L n) := by show _ = _; rw [hw0, wsum_is HR.out.2.cp (Nat.le_refl _), hs]
        have H0 : Hid (Ss w W0.heap.size w4.heap.size (w.heap.size + 1) w.heap.size w1.heap.size g4 n c4 PB PC #[.int .i64 nodes, .int .i64 slots, .slice ao nf cp] s wr) := by rw [hs]; exact HR.out.2
        rw [← hw0] at H0 ⊢
        clear HR hs hw0
        go_wp2_with fail
        go_loopw [7, 8] (fun f i wr => ∃ (b : Bool) (k : Nat), k ≤ n ∧ i = .int .i64 k ∧ f = .bool b ∧ Hid ((b = false → Nt.pss n s k = s) ∧ (b = true → Nt.fsum (Nt.pss n s k).L n < Nt.fsum s.L n) ∧ Ss w W0.heap.size w4.heap.size (w.heap.size + 1) w.heap.size w1.heap.size g4 n c4 PB PC #[.int .i64 nodes, .int .i64 slots, .slice ao nf cp] (Nt.pss n s k) wr)) (fun _ i _ => n - (intOf i).toNat)
        case atStart => exact ⟨false, 0, Nat.zero_le _, rfl, rfl, fun _ => rfl, fun h => absurd h (by decide), H0.out⟩
        case round =>
          obtain ⟨b, k, hk, rfl, rfl, HK⟩ := hrel
          obtain ⟨sv, hkt, hown⟩ := HK.out.2.2.ex
          have kc := hkt.cell (j := 2) (v := .slice (some ⟨g4, 0, none⟩) n c4) rfl
          by_cases hkn : k < n
          · have hkI : (k : Int) < n := by omega
            obtain ⟨q, hq⟩ : ∃ q, q = Nt.pss n s k := ⟨_, rfl⟩
            have HQ : Hid (q = Nt.pss n s k ∧ Nt.AllOk nodes slots nf F n q.L ∧ (∀ j, (q.L j).np = (L j).np)) := ⟨hq, by rw [hq]; exact Nt.pss_ok HS.out.2.1 hk, fun j => by rw [hq]; exact (pss_np n s j k).trans (HS.out.2.2 j)⟩
            have SK : Hid (Ss w W0.heap.size w4.heap.size (w.heap.size + 1) w.heap.size w1.heap.size g4 n c4 PB PC #[.int .i64 nodes, .int .i64 slots, .slice ao nf cp] q wr) := by rw [hq]; exact HK.out.2.2
            rw [← hq] at hown
            have o := HQ.out.2.1.ok k hkn
            have f0 := o.f0
            have w1' := o.w1
            have tp := o.top
            have s64 := HG.out.2.2.s64
            have hle := Nt.lwt_le n q.L k
            obtain ⟨t, ht⟩ : ∃ t, t = Nt.lwt n q.L k := ⟨_, rfl⟩
            have HT : Hid (t = Nt.lwt n q.L k) := ht
            rw [← ht] at hle
            obtain ⟨x, hx⟩ : ∃ x, x = q.L k := ⟨_, rfl⟩
            have HX : Hid (x = q.L k) := hx
            rw [← hx] at hle f0 w1' tp
            have d0 : wr.cell? ⟨g4, k * 6, none⟩ = some (.int .i64 x.id) := by have := SK.out.cp.cell hkn (show 0 < 6 by omega); rw [← hx] at this; simpa [lcell] using this
            have HLo : ∀ Z : Kept wr.heap.size wr, Calls Try.prog 32 #[.agg #[.int .i64 nodes, .int .i64 slots, .slice ao nf cp], .slice (some ⟨g4, 0, none⟩) n c4, .int .i64 x.id] Z.w fun e w' => e = .returned (.int .i64 (t : Nat)) ∧ Below Z.w.heap.size Z.w w' := fun Z => by
              have hlo := sLow_any (nodes := nodes) (slots := slots) x.id (H Z.w (SK.out.low.trans (Z.h.mono SK.out.low.size))).out.1 ((SK.out.cp.rd (cap := c4)).later Z.h) hf (few_np HW.out HQ.out.2.2) (by omega)
              rw [HX.out, ls_own HG.out.1 hn40 HQ.out.2.1 hkn, ← HT.out] at hlo
              rw [HX.out]
              exact hlo
            have e1 := hkt.lt
            have e2 := SK.out.nb.lt
            have e3 := SK.out.cp.2.1.lt
            have n0 := SK.out.nb.cell (j := 0) (v := .int .i64 nodes) rfl
            have n1 := SK.out.nb.cell (j := 1) (v := .int .i64 slots) rfl
            have n2 := SK.out.nb.cell (j := 2) (v := .slice ao nf cp) rfl
            have q1 : ∀ Z : Kept wr.heap.size wr, Z.w.cell? ⟨w4.heap.size, 2, none⟩ = some (.slice (some ⟨g4, 0, none⟩) n c4) := fun Z => Z.cell e1 kc
            have q2 : ∀ Z : Kept wr.heap.size wr, Z.w.cell? ⟨w.heap.size, 0, none⟩ = some (.int .i64 nodes) := fun Z => Z.cell e2 n0
            have q3 : ∀ Z : Kept wr.heap.size wr, Z.w.cell? ⟨w.heap.size, 1, none⟩ = some (.int .i64 slots) := fun Z => Z.cell e2 n1
            have q4 : ∀ Z : Kept wr.heap.size wr, Z.w.cell? ⟨w.heap.size, 2, none⟩ = some (.slice ao nf cp) := fun Z => Z.cell e2 n2
            have q5 : ∀ Z : Kept wr.heap.size wr, Z.w.cell? ⟨g4, k * 6, none⟩ = some (.int .i64 x.id) := fun Z => Z.cell e3 d0
            clear ht hx o hq hkt hown e1 e2 e3 n0 n1 n2 d0
            go_upto_region 11 with fail
            clear kc
            refine wp_region_kept wr.heap.size (by kernel_rfl) (by kernel_rfl) ?_
            intro hne
            repeat (go_big_quiet_step (first | (go_at_call 32; exact Calls.kept_of (Nat.le_refl _) (HLo _))))
            refine wpQuiet_nil ?_
            rintro u7 ⟨xk, hxk⟩
            have hR1 := xk.h
            rw [← hxk] at hR1
            clear hxk xk hne q1 q2 q3 q4 q5 HLo
            have S7 : Hid (Ss w W0.heap.size w4.heap.size (w.heap.size + 1) w.heap.size w1.heap.size g4 n c4 PB PC #[.int .i64 nodes, .int .i64 slots, .slice ao nf cp] q u7) := SK.out.later hR1
            clear hR1
            obtain ⟨sv2, hkt, hown⟩ := S7.out.ex
            have HO7 : Hid (Blk u7 w4.heap.size #[.int .i64 0, sv2, .slice (some ⟨g4, 0, none⟩) n c4] 64 ∧ u7.ownsRow W0.heap.size 55 2 sv2 q.sl.length (fl q.sl)) := ⟨hkt, hown⟩
            have kc := hkt.cell (j := 2) (v := .slice (some ⟨g4, 0, none⟩) n c4) rfl
            have d4 : u7.cell? ⟨g4, k * 6 + 4, none⟩ = some (.int .i64 x.fi) := by have := S7.out.cp.cell hkn (show 4 < 6 by omega); rw [← HX.out] at this; simpa [lcell] using this
            clear hkt hown
            by_cases hlt : (t : Int) < x.fi
            · have HLt : Hid (Nt.lwt n q.L k < (q.L k).fi.toNat) := by rw [← HT.out, ← HX.out]; show t < _; omega
              have cf : ∀ z, u7.frozen? ⟨g4, z, none⟩ = false := fun z => S7.out.cp.2.1.frozen z
              have cl7 := S7.out.cp.2.1.lt
              have sz7 := S7.out.sz
              obtain ⟨V, hV⟩ : ∃ V, V = u7.setCell ⟨g4, k * 6 + 4, none⟩ (.int .i64 t) := ⟨_, rfl⟩
              have zV : V.heap.size = u7.heap.size := by rw [hV]; simp
              have sV : ∀ j, j ≠ g4 → V.heap[j]? = u7.heap[j]? := fun j hj => by rw [hV]; exact Below.heap_setCell _ _ _ _ hj
              have HV : Hid (Cpy w1.heap.size V g4 n PB PC (Nt.mov q.L k (t : Nat)) ∧ Blk V w4.heap.size #[.int .i64 0, sv2, .slice (some ⟨g4, 0, none⟩) n c4] 64 ∧ V.drew.ownsRow W0.heap.size 55 2 sv2 q.sl.length (fl q.sl) ∧ Below w.heap.size w V ∧ (∀ j, j ≠ g4 → V.heap[j]? = u7.heap[j]?)) := by
                refine ⟨by rw [hV]; exact S7.out.cp.slide hkn _, (sV _ (by omega)).trans HO7.out.1, owns_keep HO7.out.2 fun j a b => sV j (by omega), by rw [hV]; exact S7.out.low.setCell (by show w.heap.size ≤ g4; omega) _, sV⟩
              have hlen : q.sl.length ≤ 1000000000 := by
                have a2 := Nt.pss_room (n := n) (s := s) (i := k) hk
                have a3 := Nt.rds_room (n := n) (r := r) (s := ⟨L, []⟩)
                have a4 : Nt.fsum L n ≤ n * 64 := Nt.fsum_le fun i hi => by have a := (HG.out.2.1.ok i hi).top; have b := (HG.out.2.1.ok i hi).w1; have c := (HG.out.2.1.ok i hi).f0; omega
                have a5 : n * 64 ≤ 40 * 64 := Nat.mul_le_mul_right _ hn40
                rw [← HS.out.1] at a3
                rw [← HQ.out.1] at a2
                simp at a3
                omega
              have hszV : W0.heap.size ≤ V.drew.heap.size := by rw [World.size_drew]; omega
              have v1 : V.cell? ⟨w4.heap.size, 1, none⟩ = some sv2 := HV.out.2.1.cell (j := 1) rfl
              have v2 : V.cell? ⟨w4.heap.size, 2, none⟩ = some (.slice (some ⟨g4, 0, none⟩) n c4) := HV.out.2.1.cell (j := 2) rfl
              have v3 : V.cell? ⟨g4, k * 6, none⟩ = some (.int .i64 x.id) := by have := HV.out.1.cell hkn (show 0 < 6 by omega); simpa [lcell, Nt.mov_id, ← HX.out] using this
              have vf : ∀ z, V.frozen? ⟨w4.heap.size, z, none⟩ = false := HV.out.2.1.frozen
              have k1 : ∀ W, Below W0.heap.size V W → W.cell? ⟨w4.heap.size, 1, none⟩ = some sv2 := fun W hW => (hW.cell (show w4.heap.size < W0.heap.size by omega)).trans v1
              have k2 : ∀ W, Below W0.heap.size V W → W.cell? ⟨w4.heap.size, 2, none⟩ = some (.slice (some ⟨g4, 0, none⟩) n c4) := fun W hW => (hW.cell (show w4.heap.size < W0.heap.size by omega)).trans v2
              have k3 : ∀ W, Below W0.heap.size V W → W.cell? ⟨g4, k * 6, none⟩ = some (.int .i64 x.id) := fun W hW => (hW.cell (show g4 < W0.heap.size by omega)).trans v3
              have hB0 : Below W0.heap.size V V := Below.refl _ _
              have zV2 : w4.heap.size < V.heap.size := by omega
              have hWV : W0.heap.size ≤ V.heap.size := by omega
              clear zV
              go_upto_region 14 with fail
              rw [← hV]
              clear hV kc d4 cf sV
              clear k1 k2 k3 hB0
              go_region_law (first | (refine step_pushV rfl (.tmp 53) (.tmp 62) 62 rfl 55 (.agg #[.int .i64 0, .int .i64 0]) 2 16 Try.underlying62 info55 rfl (by decide) (by decide) V.drew [.int .i64 x.id, .int .i64 t] rfl (by simp [Value.oneCell']) W0.heap.size sv2 q.sl.length (fl q.sl) (by simp [Act.eval]) HV.out.2.2.1 1 (by simp [Act.eval]) hlen hszV ?_; intro nv w3 own3 grow3; obtain ⟨gq, cq, hnv⟩ := ownsRow_succ own3; subst hnv; have hB3 : Below W0.heap.size V w3 := pushV_below HV.out.2.2.1 grow3 ((Below.refl _ _).drew) hszV; have m1 : w3.cell? ⟨w4.heap.size, 1, none⟩ = some sv2 := (hB3.cell (show w4.heap.size < W0.heap.size by omega)).trans v1; have mf : w3.frozen? ⟨w4.heap.size, 1, none⟩ = false := (hB3.frozen (p := ⟨w4.heap.size, 1, none⟩) (show w4.heap.size < W0.heap.size by omega)).trans (vf 1); have ml : w4.heap.size < w3.heap.size := (by have := hB3.size; omega)))
              all_goals
                have HN : Hid (Nt.fsum (Nt.pss n s (k + 1)).L n < Nt.fsum s.L n ∧ Ss w W0.heap.size w4.heap.size (w.heap.size + 1) w.heap.size w1.heap.size g4 n c4 PB PC #[.int .i64 nodes, .int .i64 slots, .slice ao nf cp] (Nt.pss n s (k + 1)) (w3.setCell ⟨w4.heap.size, 1, none⟩ (.slice (some ⟨gq, 0, none⟩) (q.sl.length + 1) cq))) := by
                  have es : Nt.pss n s (k + 1) = ⟨Nt.mov q.L k (t : Nat), q.sl ++ [(x.id, ((t : Nat) : Int))]⟩ := by
                    show Nt.stp2 n (Nt.pss n s k) k = _
                    rw [← HQ.out.1, Nt.stp_go HLt.out, ← HT.out, ← HX.out]
                  have hf : Nt.fsum (Nt.pss n s (k + 1)).L n < Nt.fsum s.L n := by
                    rcases Nt.stp_falls (n := n) (s := Nt.pss n s k) (i := k) hkn with a | a
                    · have hb2 := congrArg (fun z : Nt.Td => z.sl.length) a
                      have e3 : Nt.stp2 n (Nt.pss n s k) k = Nt.pss n s (k + 1) := rfl
                      rw [e3, es, ← HQ.out.1] at hb2
                      simp at hb2
                    · have a1 := a.1
                      show Nt.fsum (Nt.stp2 n (Nt.pss n s k) k).L n < _
                      rcases Nt.pss_falls (n := n) (s := s) (i := k) hk with c | c
                      · rw [c] at a1 ⊢; exact a1
                      · omega
                  refine ⟨hf, ?_⟩
                  rw [es]
                  have gb : ∀ j, j < W0.heap.size → w3.heap[j]? = V.heap[j]? := fun j hj => hB3.block j hj
                  have hkt3 : Blk w3 w4.heap.size #[.int .i64 0, sv2, .slice (some ⟨g4, 0, none⟩) n c4] 64 := (gb _ z4).trans HV.out.2.1
                  have hs4 : ∀ j, j ≠ w4.heap.size → (w3.setCell ⟨w4.heap.size, 1, none⟩ (.slice (some ⟨gq, 0, none⟩) (q.sl.length + 1) cq)).heap[j]? = w3.heap[j]? := fun j hj => Below.heap_setCell _ _ _ _ hj
                  refine ⟨⟨_, Blk.set hkt3 1 _ rfl, ?_⟩, ?_, ?_, ?_, ?_, ?_⟩
                  · have e1 : (q.sl ++ [(x.id, ((t : Nat) : Int))]).length = q.sl.length + 1 := by simp
                    show World.ownsRow _ _ _ _ _ (q.sl ++ [(x.id, ((t : Nat) : Int))]).length (fl (q.sl ++ [(x.id, ((t : Nat) : Int))]))
                    rw [e1, fl_snoc]
                    exact owns_keep own3 fun j a b => hs4 j (by omega)
                  · exact (HV.out.1.keep2 (hi := w4.heap.size) H4.out.2.1 (fun i hi => H4.out.2.2.1 i hi) (fun j a b => gb j (by omega))).keep2 (hi := w4.heap.size) H4.out.2.1 (fun i hi => H4.out.2.2.1 i hi) (fun j a b => hs4 j (by omega))
                  · exact ((hs4 _ (by omega)).trans (gb _ (by omega))).trans ((HV.out.2.2.2.2 _ (by omega)).trans S7.out.rb)
                  · exact ((hs4 _ (by omega)).trans (gb _ (by omega))).trans ((HV.out.2.2.2.2 _ (by omega)).trans S7.out.nb)
                  · exact (HV.out.2.2.2.1.trans (hB3.mono (by omega))).setCell (by show w.heap.size ≤ w4.heap.size; omega) _
                  · have := hB3.size; simp; omega
                clear own3 grow3 hB3 m1 mf ml
                go_wp2
                go_roundw
                case rel => exact ⟨true, k + 1, by omega, by simp, rfl, fun h => absurd h (by decide), fun _ => HN.out.1, HN.out.2⟩
                case measure => simp [intOf]; omega
            · have HN : Hid ((b = false → Nt.pss n s (k + 1) = s) ∧ (b = true → Nt.fsum (Nt.pss n s (k + 1)).L n < Nt.fsum s.L n) ∧ Ss w W0.heap.size w4.heap.size (w.heap.size + 1) w.heap.size w1.heap.size g4 n c4 PB PC #[.int .i64 nodes, .int .i64 slots, .slice ao nf cp] (Nt.pss n s (k + 1)) u7) := by
                have e : Nt.pss n s (k + 1) = Nt.pss n s k := Nt.stp_stay (by rw [← HQ.out.1, ← HT.out, ← HX.out]; omega)
                rw [e, ← HQ.out.1]
                exact ⟨fun h => by rw [HQ.out.1]; exact HK.out.1 h, fun h => by rw [HQ.out.1]; exact HK.out.2.1 h, S7.out⟩
              go_wp2
              go_roundw
              case rel => exact ⟨b, k + 1, by omega, by simp, rfl, HN⟩
              case measure => simp [intOf]; omega
          · obtain rfl : n = k := by omega
            have HN : Hid ((b = false → Nt.pss n (Nt.rds n (r + 1) ⟨L, []⟩) n = Nt.rds n (r + 1) ⟨L, []⟩) ∧ Ss w W0.heap.size w4.heap.size (w.heap.size + 1) w.heap.size w1.heap.size g4 n c4 PB PC #[.int .i64 nodes, .int .i64 slots, .slice ao nf cp] (Nt.rds n (r + 1) ⟨L, []⟩) wr) := by
              rw [Nt.rds_next, ← HS.out.1]
              exact ⟨fun h => by rw [HK.out.1 h, HK.out.1 h], HK.out.2.2⟩
            have HM : Hid (wsum g4 n wr = Nt.fsum (Nt.pss n s n).L n) := by show _ = _; rw [wsum_is HK.out.2.2.cp (Nat.le_refl _)]
            clear hkt hown
            go_wp2
            go_roundw
            case rel => exact ⟨b, r + 1, rfl, HN⟩
            case measure =>
              have m1 := HW0.out
              have m2 := HM.out
              have m3 := HK.out.1
              have m4 := HK.out.2.1
              cases b with
              | false => rw [m3 rfl] at m2; simp; omega
              | true => have := m4 rfl; simp; omega
  · have hb : (c != 0) = true := by simpa using hz
    have HZ : Hid (c ≠ 0) := hz
    clear hz
    go_wp2
    refine bodyPost_ret (v := .agg #[.int .i64 c, .slice none 0 0, .slice none 0 0]) (by simp [results, Try.results34, go_sem, r0, r1, r2]) rfl ⟨_, _, w.heap.size, rfl, ⟨Nat.le_refl _, ?_, Or.inl ⟨HZ.out, rfl, rfl⟩⟩, ?_⟩
    · simp
      have := HB1.out.1.size
      omega
    · exact BX.out.2.2.trans (Below.setCell (Below.setCell (Below.setCell (HB1.out.1.mono hXz1) (by simp) _) (by simp) _) (by simp) _)
end Go.Proofs.Ytinfbbbgfkaioaa
end
section
namespace Go.Proofs.Ytinfbbbgfkaioaa
open Go.RowKit
set_option linter.unusedVariables false
set_option linter.unusedSimpArgs false
set_option maxRecDepth 20000 in
set_option maxHeartbeats 3200000 in
theorem eqSl_same (g : Gu) (w : World) : Calls Try.prog 101 #[.agg #[.int .i64 g.wk, .int .i64 g.sp], .agg #[.int .i64 g.wk, .int .i64 g.sp]] w fun e w' => e = .returned (.bool true) ∧ Below w.heap.size w w' := by
  go_enter Try.func101, Try.ntmps101
  go_wp2
  go_ret
  exact ⟨rfl, by go_grown⟩
set_option maxRecDepth 20000 in
set_option maxHeartbeats 3200000 in
theorem eqSls_same (b cap b' cap' n : Nat) (G : Nat → Gu) (w : World) (hn : n ≤ 1000000000000) (hs : SegV w b 55 n 2 (fun i j => gcell (G i) j)) (ht : SegV w b' 55 n 2 (fun i j => gcell (G i) j)) :
    Calls Try.prog 76 #[.slice (some ⟨b, 0, none⟩) n cap, .slice (some ⟨b', 0, none⟩) n cap'] w fun e w' => e = .returned (.bool true) ∧ Below w.heap.size w w' := by
  have later : ∀ (wr : World) (p : Addr) {v : Value}, w.cell? p = some v → Below w.heap.size w wr → wr.cell? p = some v := fun wr p v h hb => (hb.cell (World.block_lt_of_cell? _ _ h)).trans h
  go_enter Try.func76, Try.ntmps76
  go_wp2_with fail
  go_loopw [5] (fun i wr => ∃ k : Nat, k ≤ n ∧ i = .int .i64 k ∧ Below w.heap.size w wr) (fun i _ => n - (intOf i).toNat)
  case atStart => exact ⟨0, Nat.zero_le _, rfl, Below.refl _ _⟩
  case round =>
    obtain ⟨k, hk, rfl, hb⟩ := hrel
    by_cases hkn : k < n
    · have p0 : ∀ W, Below w.heap.size w W → W.cell? ⟨b, k * 2, none⟩ = some (.int .i64 (G k).wk) := fun W h => later W _ (hs.cell hkn (show 0 < 2 by omega)) h
      have q0 : ∀ W, Below w.heap.size w W → W.cell? ⟨b', k * 2, none⟩ = some (.int .i64 (G k).wk) := fun W h => later W _ (ht.cell hkn (show 0 < 2 by omega)) h
      have p1 : ∀ W, Below w.heap.size w W → W.cell? ⟨b, k * 2 + 1, none⟩ = some (.int .i64 (G k).sp) := fun W h => later W _ (hs.cell hkn (show 1 < 2 by omega)) h
      have q1 : ∀ W, Below w.heap.size w W → W.cell? ⟨b', k * 2 + 1, none⟩ = some (.int .i64 (G k).sp) := fun W h => later W _ (ht.cell hkn (show 1 < 2 by omega)) h
      clear hs ht later
      go_wp2_with fail
      go_region_held (fun W => Below w.heap.size w W) (first | assumption | exact Below.drew ‹_›)
        (first | (go_at_call 101; refine (eqSl_same (G k) _).mono ?_; rintro e w1 ⟨rfl, hb1⟩; have hR1 := box_step ‹_› hb1 (Nat.le_refl _)))
      have HB : Hid (Below w.heap.size w w1) := hR1
      clear hR1 hb1 p0 q0 p1 q1
      go_wp2
      go_roundw
      case rel => exact ⟨k + 1, by omega, by simp, HB.out⟩
      case measure => simp [intOf]; omega
    · obtain rfl : k = n := by omega
      clear hs ht later
      go_wp2
      go_ret
      exact ⟨rfl, hb⟩
set_option maxRecDepth 20000 in
set_option maxHeartbeats 3200000 in
theorem markSl_some (g n cap : Nat) (k0 : Int) (f : Nat → Nat → Value) (w : World) (hn : n ≤ 1048576) (hk0 : 0 ≤ k0) (hk1 : k0 ≤ 100000000) (hs : SegV w g 55 n 2 f) :
    Calls Try.prog 77 #[.slice (some ⟨g, 0, none⟩) n cap, .int .i64 k0] w fun e w' => e = .returned (.int .i64 (mG k0 n)) ∧ SegV w' g 55 n 2 (fun i j => gcell (mgd (mG k0 i)) j) ∧ Within g (g + 1) w w' ∧ w'.heap.size = w.heap.size := by
  have HS : Hid (SegV w g 55 n 2 f) := hs
  clear hs
  have hnI : (n : Int) ≤ 1048576 := by omega
  go_enter Try.func77, Try.ntmps77
  go_wp2_with fail
  go_loopw [1, 5] (fun s1 s5 wr => ∃ i : Nat, i ≤ n ∧ s1 = .int .i64 (mG k0 i) ∧ s5 = .int .i64 i ∧ Hid (SegV wr g 55 n 2 (fun a j => if a < i then gcell (mgd (mG k0 a)) j else f a j) ∧ Within g (g + 1) w wr ∧ wr.heap.size = w.heap.size)) (fun _ s5 _ => n - (intOf s5).toNat)
  case atStart => exact ⟨0, Nat.zero_le _, by simp [mG], rfl, HS.out.congr (fun a _ j _ => by simp), Within.refl _ _ _, rfl⟩
  case round =>
    obtain ⟨i, hi, rfl, rfl, HH⟩ := hrel
    by_cases hin : i < n
    · have fz : ∀ j, wr.frozen? ⟨g, j, none⟩ = false := fun j => HH.out.1.frozen j
      have a0 := HH.out.1.cell hin (show 0 < 2 by omega)
      have a1 := HH.out.1.cell hin (show 1 < 2 by omega)
      simp only [Nat.add_zero, Nat.lt_irrefl, if_false] at a0 a1
      have hiI : (i : Int) < n := by omega
      have hKn : mG k0 (i + 1) = mG k0 i + 1 + 1 := by unfold mG; omega
      have hK0 : 0 ≤ mG k0 i := by unfold mG; omega
      have hK1 : mG k0 i ≤ 500000000 := by unfold mG; omega
      obtain ⟨K, hK⟩ : ∃ K : Int, K = mG k0 i := ⟨_, rfl⟩
      have HK : Hid (mG k0 (i + 1) = K + 1 + 1) := by rw [hK]; exact hKn
      rw [← hK] at hK0 hK1 ⊢
      clear hKn
      have HW : Hid (SegV ((wr.setCell ⟨g, i * 2, none⟩ (.int .i64 (K))).setCell ⟨g, i * 2 + 1, none⟩ (.int .i64 (K + 1))) g 55 n 2 (fun a j => if a < i + 1 then gcell (mgd (mG k0 a)) j else f a j) ∧ Within g (g + 1) w ((wr.setCell ⟨g, i * 2, none⟩ (.int .i64 (K))).setCell ⟨g, i * 2 + 1, none⟩ (.int .i64 (K + 1))) ∧ ((wr.setCell ⟨g, i * 2, none⟩ (.int .i64 (K))).setCell ⟨g, i * 2 + 1, none⟩ (.int .i64 (K + 1))).heap.size = w.heap.size) := by
        obtain ⟨h1, h2, h4⟩ := HH.out
        have t0 := SegV.set h1 hin (show 0 < 2 by omega) (.int .i64 (K))
        have t1 := SegV.set t0 hin (show 1 < 2 by omega) (.int .i64 (K + 1))
        refine ⟨t1.congr fun a ha j hj => ?_, ((h2.setCell (Nat.le_refl _) (Nat.lt_succ_self _) _).setCell (Nat.le_refl _) (Nat.lt_succ_self _) _), by simpa using h4⟩
        by_cases c : a = i
        · subst c
          have e3 : a < a + 1 := by omega
          rw [← hK]
          match j, hj with
          | 0, _ => simp [e3, gcell, mgd]
          | 1, _ => simp [e3, gcell, mgd]
        · by_cases c2 : a < i
          · simp [c, c2, Nat.lt_succ_of_lt c2]
          · have : ¬ a < i + 1 := by omega
            simp [c, c2, this]
      clear hK HH
      go_wp2
      go_roundw
      case rel =>
        refine ⟨i + 1, by omega, by rw [HK.out], by simp, ?_⟩
        first | exact HW | (simp only [Nat.add_assoc, Nat.reduceAdd]; exact HW)
      case measure => simp [intOf]; omega
    · obtain rfl : i = n := by omega
      go_wp2
      go_ret
      exact ⟨rfl, HH.out.1.congr fun a ha j _ => by simp [ha], HH.out.2⟩
/-- A list of slides as pairs. -/
def pr (xs : List (Int × Int)) (i : Nat) : Gu := ⟨(xs.getD i (0, 0)).1, (xs.getD i (0, 0)).2⟩
theorem scl_is (xs : List (Int × Int)) (i j : Nat) (hj : j < 2) : scl xs i j = gcell (pr xs i) j := by
  match j, hj with
  | 0, _ => rfl
  | 1, _ => rfl
set_option maxHeartbeats 800000 in
theorem eqSl_none (ao ao' : Option Addr) (cap cap' : Nat) (w : World) : Calls Try.prog 76 #[.slice ao 0 cap, .slice ao' 0 cap'] w fun e w' => e = .returned (.bool true) ∧ Below w.heap.size w w' := by
  go_enter Try.func76, Try.ntmps76
  go_wp2_with fail
  go_loopw [5] (fun i wr => i = .int .i64 0 ∧ wr = w) (fun _ _ => 0)
  case atStart => exact ⟨rfl, rfl⟩
  case round =>
    obtain ⟨rfl, hwr⟩ := hrel
    obtain rfl := hwr.symm
    go_wp2
    go_ret
    exact ⟨rfl, Below.refl _ _⟩
set_option maxHeartbeats 800000 in
theorem markSl_none (ao : Option Addr) (cap : Nat) (k0 : Int) (w : World) : Calls Try.prog 77 #[.slice ao 0 cap, .int .i64 k0] w fun e w' => e = .returned (.int .i64 k0) ∧ w = w' := by
  go_enter Try.func77, Try.ntmps77
  go_wp2_with fail
  go_loopw [1, 5] (fun s i wr => s = .int .i64 k0 ∧ i = .int .i64 0 ∧ wr = w) (fun _ _ _ => 0)
  case atStart => exact ⟨rfl, rfl, rfl⟩
  case round =>
    obtain ⟨rfl, rfl, hwr⟩ := hrel
    obtain rfl := hwr.symm
    go_wp2
    go_ret
    exact ⟨rfl, rfl⟩
set_option maxHeartbeats 800000 in
theorem heldSl_none (ao : Option Addr) (cap : Nat) (k0 : Int) (w : World) : Calls Try.prog 78 #[.slice ao 0 cap, .int .i64 k0] w fun e w' => e = .returned (.int .i64 k0) ∧ w = w' := by
  go_enter Try.func78, Try.ntmps78
  go_wp2_with fail
  go_loopw [1, 5] (fun s i wr => s = .int .i64 k0 ∧ i = .int .i64 0 ∧ wr = w) (fun _ _ _ => 0)
  case atStart => exact ⟨rfl, rfl, rfl⟩
  case round =>
    obtain ⟨rfl, rfl, hwr⟩ := hrel
    obtain rfl := hwr.symm
    go_wp2
    go_ret
    exact ⟨rfl, rfl⟩
set_option maxHeartbeats 800000 in
theorem heldSl_some (g n cap : Nat) (k0 : Int) (w : World) (hn : n ≤ 1048576) (hk0 : 0 ≤ k0) (hk1 : k0 ≤ 100000000) (hs : SegV w g 55 n 2 (fun i j => gcell (mgd (mG k0 i)) j)) :
    Calls Try.prog 78 #[.slice (some ⟨g, 0, none⟩) n cap, .int .i64 k0] w fun e w' => e = .returned (.int .i64 (mG k0 n)) ∧ w = w' := by
  have HS : Hid (SegV w g 55 n 2 (fun i j => gcell (mgd (mG k0 i)) j)) := hs
  clear hs
  have hnI : (n : Int) ≤ 1048576 := by omega
  go_enter Try.func78, Try.ntmps78
  go_wp2_with fail
  go_loopw [1, 5] (fun s1 s5 wr => wr = w ∧ ∃ i : Nat, i ≤ n ∧ s1 = .int .i64 (mG k0 i) ∧ s5 = .int .i64 i) (fun _ s5 _ => n - (intOf s5).toNat)
  case atStart => exact ⟨rfl, 0, Nat.zero_le _, by simp [mG], rfl⟩
  case round =>
    obtain ⟨hwr, i, hi, rfl, rfl⟩ := hrel
    obtain rfl := hwr.symm
    by_cases hin : i < n
    · have a0 := HS.out.cell hin (show 0 < 2 by omega)
      have a1 := HS.out.cell hin (show 1 < 2 by omega)
      simp only [Nat.add_zero, gcell, mgd] at a0 a1
      have hiI : (i : Int) < n := by omega
      have hKn : mG k0 (i + 1) = mG k0 i + 1 + 1 := by unfold mG; omega
      have hK0 : 0 ≤ mG k0 i := by unfold mG; omega
      have hK1 : mG k0 i ≤ 500000000 := by unfold mG; omega
      obtain ⟨K, hK⟩ : ∃ K : Int, K = mG k0 i := ⟨_, rfl⟩
      have HK : Hid (mG k0 (i + 1) = K + 1 + 1) := by rw [hK]; exact hKn
      rw [← hK] at hK0 hK1 a0 a1 ⊢
      clear hKn hK
      go_wp2
      go_roundw
      case rel => exact ⟨by trivial, i + 1, by omega, by rw [HK.out], by simp⟩
      case measure => simp [intOf]; omega
    · obtain rfl : i = n := by omega
      go_wp2
      go_ret
      exact ⟨rfl, rfl⟩
/-- A list of slides, to be read. -/
def RdS (w : World) (v : Value) (xs : List (Int × Int)) : Prop := (xs = [] ∧ v = .slice none 0 0) ∨ ∃ g cap, v = .slice (some ⟨g, 0, none⟩) xs.length cap ∧ SegV w g 55 xs.length 2 (scl xs)
theorem RdS.later {w w' : World} {v : Value} {xs : List (Int × Int)} (h : RdS w v xs) (hb : Below w.heap.size w w') : RdS w' v xs := by
  rcases h with h | ⟨g, cap, e, h⟩
  · exact Or.inl h
  · exact Or.inr ⟨g, cap, e, h.below hb⟩
theorem RdS.shape {w : World} {v : Value} {xs : List (Int × Int)} (h : RdS w v xs) : ∃ ao k cap, v = .slice ao k cap := by
  rcases h with ⟨_, e⟩ | ⟨g, cap, e, h⟩
  · exact ⟨_, _, _, e⟩
  · exact ⟨_, _, _, e⟩
theorem eqSl_any {w : World} {v v' : Value} {xs : List (Int × Int)} (h : RdS w v xs) (h' : RdS w v' xs) (hl : xs.length ≤ 1048576) : Calls Try.prog 76 #[v, v'] w fun e w' => e = .returned (.bool true) ∧ Below w.heap.size w w' := by
  rcases h with ⟨rfl, rfl⟩ | ⟨g, cap, rfl, h⟩
  · rcases h' with ⟨_, rfl⟩ | ⟨g', cap', rfl, h'⟩
    · exact eqSl_none _ _ _ _ w
    · exact eqSl_none _ _ _ _ w
  · rcases h' with ⟨e, rfl⟩ | ⟨g', cap', rfl, h'⟩
    · subst e; exact eqSl_none _ _ _ _ w
    · exact eqSls_same g cap g' cap' xs.length (pr xs) w (by omega) (h.congr fun i _ j hj => scl_is xs i j hj) (h'.congr fun i _ j hj => scl_is xs i j hj)
/-- A code, slides and lights, to be read. -/
def OutZ (w : World) (c : Int) (sv lv : Value) (xs : List (Int × Int)) (n : Nat) (L : Nat → Li) : Prop := (c ≠ 0 ∧ sv = .slice none 0 0 ∧ lv = .slice none 0 0) ∨ (c = 0 ∧ RdS w sv xs ∧ RdL w lv n L)
theorem OutZ.shape {w : World} {c : Int} {sv lv : Value} {xs : List (Int × Int)} {n : Nat} {L : Nat → Li} (h : OutZ w c sv lv xs n L) : (∃ ao k cap, sv = .slice ao k cap) ∧ ∃ ao k cap, lv = .slice ao k cap := by
  rcases h with ⟨_, e1, e2⟩ | ⟨_, h1, h2⟩
  · exact ⟨⟨_, _, _, e1⟩, _, _, _, e2⟩
  · obtain ⟨ao, cap, e⟩ := h2.shape
    exact ⟨h1.shape, _, _, _, e⟩
theorem OutT.rd {lo mid hi : Nat} {w : World} {c : Int} {sv lv : Value} {xs : List (Int × Int)} {n : Nat} {L : Nat → Li} (h : OutT lo mid hi w c sv lv xs n L) : OutZ w c sv lv xs n L := by
  rcases h with h | ⟨h0, h1, g, cap, PB, PC, rfl, h2, _⟩
  · exact Or.inl h
  · exact Or.inr ⟨h0, h1.imp id fun ⟨g, cap, a, _, _, b⟩ => ⟨g, cap, a, b⟩, h2.rd⟩
theorem OwnT.rd {lo mid hi : Nat} {w : World} {c : Int} {sv lv : Value} {xs : List (Int × Int)} {n : Nat} {L : Nat → Li} (h : OwnT lo mid hi w c sv lv xs n L) : OutZ w c sv lv xs n L := by
  rcases h with h | ⟨h0, h1, g, cap, rfl, h2⟩
  · exact Or.inl h
  · exact Or.inr ⟨h0, h1.imp id fun ⟨g, cap, a, _, _, b⟩ => ⟨g, cap, a, b⟩, h2.rd⟩
theorem OutZ.later {w w' : World} {c : Int} {sv lv : Value} {xs : List (Int × Int)} {n : Nat} {L : Nat → Li} (h : OutZ w c sv lv xs n L) (hb : Below w.heap.size w w') : OutZ w' c sv lv xs n L := by
  rcases h with h | ⟨h0, h1, h2⟩
  · exact Or.inl h
  · exact Or.inr ⟨h0, h1.later hb, h2.later hb⟩
theorem OwnT.keep {lo mid hi : Nat} {w w' : World} {c : Int} {sv lv : Value} {xs : List (Int × Int)} {n : Nat} {L : Nat → Li} (h : OwnT lo mid hi w c sv lv xs n L) (hk : Keep lo hi w w') (h1 : lo ≤ mid) (h2 : mid ≤ hi) : OwnT lo mid hi w' c sv lv xs n L := by
  rcases h with h | ⟨h0, a, g, cap, e, b⟩
  · exact Or.inl h
  · exact Or.inr ⟨h0, a.imp id fun ⟨g, cap, q1, q2, q3, q4⟩ => ⟨g, cap, q1, q2, q3, q4.of_block (hk g (by omega) q3)⟩, g, cap, e, b.keep fun k r1 r2 => hk k r1 (by omega)⟩
set_option maxHeartbeats 800000 in
theorem eqZ_go {w : World} {c : Int} {so so' lo lo' : Option Addr} {sk sk' sc sc' m lc lc' : Nat} {xs : List (Int × Int)} {L : Nat → Li} (h1 : RdS w (.slice so sk sc) xs) (h2 : RdS w (.slice so' sk' sc') xs) (h3 : RdL w (.slice lo m lc) m L) (h4 : RdL w (.slice lo' m lc') m L) (hl : xs.length ≤ 1048576) (hf : LFew m L) :
    Calls Try.prog 36 #[.agg #[.int .i64 c, .slice so sk sc, .slice lo m lc], .agg #[.int .i64 c, .slice so' sk' sc', .slice lo' m lc']] w fun e w' => e = .returned (.bool true) ∧ Below w.heap.size w w' := by
  obtain ⟨X, hX⟩ : ∃ X, X = (w.alloc (.cells #[.int .i64 c, .slice so sk sc, .slice lo m lc] 64)).alloc (.cells #[.int .i64 c, .slice so' sk' sc', .slice lo' m lc'] 64) := ⟨_, rfl⟩
  have BX : Hid (Blk X w.heap.size #[.int .i64 c, .slice so sk sc, .slice lo m lc] 64 ∧ Blk X (w.heap.size + 1) #[.int .i64 c, .slice so' sk' sc', .slice lo' m lc'] 64 ∧ Below w.heap.size w X) := by rw [hX]; exact ⟨(Blk.new rfl).alloc _, Blk.new (by simp), ((Below.refl _ _).alloc (Nat.le_refl _) _).alloc (by simp) _⟩
  have hXz : w.heap.size ≤ X.heap.size := Nat.le_of_lt BX.out.1.lt
  have H : ∀ W, Below X.heap.size X W → Hid (RdS W (.slice so sk sc) xs ∧ RdS W (.slice so' sk' sc') xs ∧ RdL W (.slice lo m lc) m L ∧ RdL W (.slice lo' m lc') m L ∧ LFew m L) := fun W hb => ⟨h1.later (BX.out.2.2.trans (hb.mono hXz)), h2.later (BX.out.2.2.trans (hb.mono hXz)), h3.later (BX.out.2.2.trans (hb.mono hXz)), h4.later (BX.out.2.2.trans (hb.mono hXz)), hf⟩
  clear h1 h2 h3 h4 hf
  have CX : ∀ W, Below X.heap.size X W → W.cell? ⟨w.heap.size, 0, none⟩ = some (.int .i64 c) ∧ W.cell? ⟨w.heap.size, 1, none⟩ = some (.slice so sk sc) ∧ W.cell? ⟨w.heap.size, 2, none⟩ = some (.slice lo m lc) ∧ W.cell? ⟨w.heap.size + 1, 0, none⟩ = some (.int .i64 c) ∧ W.cell? ⟨w.heap.size + 1, 1, none⟩ = some (.slice so' sk' sc') ∧ W.cell? ⟨w.heap.size + 1, 2, none⟩ = some (.slice lo' m lc') :=
    fun W h => ⟨(BX.out.1.old h).cell rfl, (BX.out.1.old h).cell rfl, (BX.out.1.old h).cell rfl, (BX.out.2.1.old h).cell rfl, (BX.out.2.1.old h).cell rfl, (BX.out.2.1.old h).cell rfl⟩
  obtain ⟨x0, x1, x2, y0, y1, y2⟩ := CX X (Below.refl _ _)
  go_enter Try.func36, Try.ntmps36
  go_upto_region 1 with fail
  rw [← hX]
  clear hX
  go_wp2_with fail
  refine (eqSl_any (H _ (Below.refl _ _)).out.1 (H _ (Below.refl _ _)).out.2.1 hl).mono ?_
  rintro e w1 ⟨rfl, hb1⟩
  clear x0 x1 x2 y0 y1 y2
  obtain ⟨x0, x1, x2, y0, y1, y2⟩ := CX w1 hb1
  have HB1 : Hid (Below X.heap.size X w1) := hb1
  clear hb1
  go_wp2_with fail
  refine (eqLits_any (H _ HB1.out).out.2.2.1 (H _ HB1.out).out.2.2.2.1 (H _ HB1.out).out.2.2.2.2).mono ?_
  rintro e w2 ⟨rfl, hb2⟩
  have HB2 : Hid (Below w.heap.size w w2) := BX.out.2.2.trans ((HB1.out.trans (hb2.mono HB1.out.size)).mono hXz)
  clear x0 x1 x2 y0 y1 y2 hb2
  go_wp2
  go_ret
  exact ⟨rfl, HB2.out⟩
theorem eqZ_any {w : World} {c : Int} {sv lv sv' lv' : Value} {xs : List (Int × Int)} {n : Nat} {L : Nat → Li} (h : OutZ w c sv lv xs n L) (h' : OutZ w c sv' lv' xs n L) (hn : c = 0 → xs.length ≤ 1048576 ∧ LFew n L) :
    Calls Try.prog 36 #[.agg #[.int .i64 c, sv, lv], .agg #[.int .i64 c, sv', lv']] w fun e w' => e = .returned (.bool true) ∧ Below w.heap.size w w' := by
  rcases h with ⟨h0, rfl, rfl⟩ | ⟨h0, h1, h2⟩
  · rcases h' with ⟨_, rfl, rfl⟩ | ⟨h2, _⟩
    · exact eqZ_go (xs := []) (L := L) (Or.inl ⟨rfl, rfl⟩) (Or.inl ⟨rfl, rfl⟩) (rdl_none w none 0 L) (rdl_none w none 0 L) (by simp) (few_none L)
    · exact absurd h2 h0
  · rcases h' with ⟨h2, _⟩ | ⟨_, h3, h4⟩
    · exact absurd h0 h2
    · obtain ⟨so, sk, sc, e1⟩ := h1.shape
      obtain ⟨so', sk', sc', e2⟩ := h3.shape
      obtain ⟨lo, lc, e3⟩ := h2.shape
      obtain ⟨lo', lc', e4⟩ := h4.shape
      subst e1
      subst e2
      subst e3
      subst e4
      exact eqZ_go h1 h3 h2 h4 (hn h0).1 (hn h0).2
end Go.Proofs.Ytinfbbbgfkaioaa
end
section
namespace Go.Proofs.Ytinfbbbgfkaioaa
open Go.RowKit
set_option linter.unusedVariables false
set_option linter.unusedSimpArgs false
/-- What TidyNet answered, marked from 1 on; r: the next mark. -/
def MkdT (lo mid hi : Nat) (w : World) (c : Int) (sv lv : Value) (len n : Nat) (L : Nat → Li) (r : Int) : Prop :=
  (c ≠ 0 ∧ sv = .slice none 0 0 ∧ lv = .slice none 0 0 ∧ r = 1) ∨ (c = 0 ∧ r = mLs (mG 1 len) L n ∧ ((len = 0 ∧ sv = .slice none 0 0) ∨ ∃ g cap, sv = .slice (some ⟨g, 0, none⟩) len cap ∧ mid ≤ g ∧ g < hi ∧ SegV w g 55 len 2 (fun i j => gcell (mgd (mG 1 i)) j)) ∧
    ∃ g cap, lv = .slice (some ⟨g, 0, none⟩) n cap ∧ OwLs lo mid w g n (mkL (mG 1 len) L))
theorem MkdT.keep {lo mid hi : Nat} {w w' : World} {c : Int} {sv lv : Value} {len n : Nat} {L : Nat → Li} {r : Int} (h : MkdT lo mid hi w c sv lv len n L r) (hk : Keep lo hi w w') (h1 : lo ≤ mid) (h2 : mid ≤ hi) : MkdT lo mid hi w' c sv lv len n L r := by
  rcases h with h | ⟨h0, hr, a, g, cap, e, b⟩
  · exact Or.inl h
  · exact Or.inr ⟨h0, hr, a.imp id fun ⟨g, cap, q1, q2, q3, q4⟩ => ⟨g, cap, q1, q2, q3, q4.of_block (hk g (by omega) q3)⟩, g, cap, e, b.keep fun k r1 r2 => hk k r1 (by omega)⟩
theorem MkdT.pos {lo mid hi : Nat} {w : World} {c : Int} {sv lv : Value} {len n : Nat} {L : Nat → Li} {r : Int} (h : MkdT lo mid hi w c sv lv len n L r) : 0 ≤ r := by
  rcases h with ⟨_, _, _, h⟩ | ⟨_, h, _⟩
  · omega
  · have := mLs_lo (mG 1 len) L n
    have : mG 1 len = 1 + 2 * (len : Int) := rfl
    omega
/-- A list of slides is marked. -/
theorem markSl_any {mid hi : Nat} {w : World} {sv : Value} {xs : List (Int × Int)} (h : (xs = [] ∧ sv = .slice none 0 0) ∨ ∃ g cap, sv = .slice (some ⟨g, 0, none⟩) xs.length cap ∧ mid ≤ g ∧ g < hi ∧ SegV w g 55 xs.length 2 (scl xs)) (hl : xs.length ≤ 1048576) :
    Calls Try.prog 77 #[sv, .int .i64 1] w fun e w' => e = .returned (.int .i64 (mG 1 xs.length)) ∧ ((xs.length = 0 ∧ sv = .slice none 0 0) ∨ ∃ g cap, sv = .slice (some ⟨g, 0, none⟩) xs.length cap ∧ mid ≤ g ∧ g < hi ∧ SegV w' g 55 xs.length 2 (fun i j => gcell (mgd (mG 1 i)) j)) ∧ Within mid hi w w' := by
  rcases h with ⟨rfl, rfl⟩ | ⟨g, cap, rfl, h1, h2, h3⟩
  · refine (markSl_none none 0 1 w).mono ?_
    rintro e w' ⟨rfl, rfl⟩
    exact ⟨by simp [mG], Or.inl ⟨rfl, rfl⟩, Within.refl _ _ _⟩
  · refine (markSl_some g xs.length cap 1 _ w hl (by omega) (by omega) h3).mono ?_
    rintro e w' ⟨rfl, a1, a2, _⟩
    exact ⟨rfl, Or.inr ⟨g, cap, rfl, h1, h2, a1⟩, a2.mono h1 h2⟩
theorem heldSl_any {mid hi len : Nat} {w : World} {sv : Value} (h : (len = 0 ∧ sv = .slice none 0 0) ∨ ∃ g cap, sv = .slice (some ⟨g, 0, none⟩) len cap ∧ mid ≤ g ∧ g < hi ∧ SegV w g 55 len 2 (fun i j => gcell (mgd (mG 1 i)) j)) (hl : len ≤ 1048576) :
    Calls Try.prog 78 #[sv, .int .i64 1] w fun e w' => e = .returned (.int .i64 (mG 1 len)) ∧ w = w' := by
  rcases h with ⟨rfl, rfl⟩ | ⟨g, cap, rfl, h1, h2, h3⟩
  · refine (heldSl_none none 0 1 w).mono ?_
    rintro e w' ⟨rfl, rfl⟩
    exact ⟨by simp [mG], rfl⟩
  · exact heldSl_some g len cap 1 w hl (by omega) (by omega) h3
set_option maxHeartbeats 1600000 in
theorem markT_any {lo mid hi : Nat} {w : World} {c : Int} {so lo' : Option Addr} {sk sc lk lc : Nat} {xs : List (Int × Int)} {n : Nat} {L : Nat → Li} (h : OwnT lo mid hi w c (.slice so sk sc) (.slice lo' lk lc) xs n L) (hn : c = 0 → xs.length ≤ 1048576 ∧ LFew n L) (hlo : lo ≤ mid) (hmi : mid ≤ hi) (hhi : hi ≤ w.heap.size) :
    Calls Try.prog 37 #[.agg #[.int .i64 c, .slice so sk sc, .slice lo' lk lc], .int .i64 1] w fun e w' => ∃ r, e = .returned (.int .i64 r) ∧ MkdT lo mid hi w' c (.slice so sk sc) (.slice lo' lk lc) xs.length n L r ∧ Within lo hi w w' := by
  obtain ⟨X, hX⟩ : ∃ X, X = w.alloc (.cells #[.int .i64 c, .slice so sk sc, .slice lo' lk lc] 64) := ⟨_, rfl⟩
  have BX : Hid (Blk X w.heap.size #[.int .i64 c, .slice so sk sc, .slice lo' lk lc] 64 ∧ Below w.heap.size w X ∧ w.heap.size < X.heap.size ∧ Within lo hi w X) := by rw [hX]; exact ⟨Blk.new rfl, (Below.refl _ _).alloc (Nat.le_refl _) _, by simp, (Within.refl _ _ _).alloc (by omega) _⟩
  have x1 := BX.out.1.cell (j := 1) (v := .slice so sk sc) rfl
  have x2 := BX.out.1.cell (j := 2) (v := .slice lo' lk lc) rfl
  have hz := BX.out.2.2.1
  rcases h with ⟨h0, e1, e2⟩ | ⟨h0, h1, g, cap, e, h2⟩
  · have H0 : Hid (c ≠ 0 ∧ Value.slice so sk sc = .slice none 0 0 ∧ Value.slice lo' lk lc = .slice none 0 0) := ⟨h0, e1, e2⟩
    have c1 : Calls Try.prog 77 #[.slice so sk sc, .int .i64 1] X fun e w' => e = .returned (.int .i64 1) ∧ X = w' := by rw [e1]; exact markSl_none _ _ _ _
    have c2 : Calls Try.prog 22 #[.slice lo' lk lc, .int .i64 1] X fun e w' => e = .returned (.int .i64 1) ∧ X = w' := by rw [e2]; exact markLits_none _ _ _ _
    clear h0 hn e1 e2
    go_enter Try.func37, Try.ntmps37
    go_upto_region 1 with fail
    rw [← hX]
    clear hX
    go_wp2_with fail
    refine c1.mono ?_
    rintro e w1 ⟨rfl, rfl⟩
    go_wp2_with fail
    refine c2.mono ?_
    rintro e w1 ⟨rfl, rfl⟩
    clear x1 x2 c1 c2
    go_wp2
    go_ret
    exact ⟨1, rfl, Or.inl ⟨H0.out.1, H0.out.2.1, H0.out.2.2, rfl⟩, BX.out.2.2.2⟩
  · have hX0 : Hid (OwLs lo mid X g n L) := h2.keep (Keep.of BX.out.2.1 (by omega))
    have c1 := markSl_any (w := X) (sv := .slice so sk sc) (mid := mid) (hi := hi) (xs := xs) (h1.imp id fun ⟨g, cap, a, b, d, q⟩ => ⟨g, cap, a, b, d, q.below BX.out.2.1⟩) (hn h0).1
    have HN : Hid (xs.length ≤ 1048576 ∧ LFew n L ∧ c = 0 ∧ Value.slice lo' lk lc = .slice (some ⟨g, 0, none⟩) n cap) := ⟨(hn h0).1, (hn h0).2, h0, e⟩
    clear h1 h2 h0 hn
    obtain ⟨e1, e2, e3⟩ : some ⟨g, 0, none⟩ = lo' ∧ n = lk ∧ cap = lc := by simp at e; exact ⟨e.1.symm, e.2.1.symm, e.2.2.symm⟩
    clear e
    subst e1
    subst e2
    subst e3
    go_enter Try.func37, Try.ntmps37
    go_upto_region 1 with fail
    rw [← hX]
    clear hX
    go_wp2_with fail
    refine c1.mono ?_
    rintro e w1 ⟨rfl, a1, a2⟩
    have H1 : Hid (((xs.length = 0 ∧ Value.slice so sk sc = .slice none 0 0) ∨ ∃ g cap, Value.slice so sk sc = .slice (some ⟨g, 0, none⟩) xs.length cap ∧ mid ≤ g ∧ g < hi ∧ SegV w1 g 55 xs.length 2 (fun i j => gcell (mgd (mG 1 i)) j)) ∧ Within mid hi X w1 ∧ OwLs lo mid w1 g n L) := ⟨a1, a2, hX0.out.keep (keep_apart a2 (Or.inl (Nat.le_refl _)) (by omega))⟩
    have y2 : w1.cell? ⟨w.heap.size, 2, none⟩ = some (.slice (some ⟨g, 0, none⟩) n cap) := (BX.out.1.within a2 (Or.inr hhi)).cell (j := 2) rfl
    have k0 : 0 ≤ mG 1 xs.length := by unfold mG; omega
    have k1 : mG 1 xs.length ≤ 100000000 := by have := HN.out.1; unfold mG; omega
    clear a1 a2 x1 x2 c1
    go_wp2_with fail
    refine (markLits_any (mG 1 xs.length) H1.out.2.2 k0 k1 HN.out.2.1).mono ?_
    rintro e w2 ⟨rfl, hm2, hw2⟩
    have H2 : Hid (OwLs lo mid w2 g n (mkL (mG 1 xs.length) L) ∧ Within lo mid w1 w2) := ⟨hm2, hw2⟩
    clear hm2 hw2 y2
    go_wp2
    go_ret
    refine ⟨_, rfl, Or.inr ⟨HN.out.2.2.1, rfl, ?_, g, _, rfl, H2.out.1⟩, ?_⟩
    · have z1 := H1.out.2.1.below.size
      refine H1.out.1.imp id ?_
      rintro ⟨g', cap', q1, q2, q3, q4⟩
      exact ⟨g', cap', q1, q2, q3, q4.of_block (H2.out.2.above g' q2 (by omega))⟩
    · exact BX.out.2.2.2.trans ((H1.out.2.1.mono hlo (Nat.le_refl _)).trans (H2.out.2.mono (Nat.le_refl _) hmi))
set_option maxHeartbeats 1600000 in
theorem heldT_any {lo mid hi : Nat} {w : World} {c : Int} {so lo' : Option Addr} {sk sc lk lc len : Nat} {n : Nat} {L : Nat → Li} {r : Int} (h : MkdT lo mid hi w c (.slice so sk sc) (.slice lo' lk lc) len n L r) (hn : c = 0 → len ≤ 1048576 ∧ LFew n L) (hlo : lo ≤ mid) (hmi : mid ≤ hi) (hhi : hi ≤ w.heap.size) :
    Calls Try.prog 38 #[.agg #[.int .i64 c, .slice so sk sc, .slice lo' lk lc], .int .i64 1] w fun e w' => e = .returned (.int .i64 r) ∧ Below w.heap.size w w' := by
  obtain ⟨X, hX⟩ : ∃ X, X = w.alloc (.cells #[.int .i64 c, .slice so sk sc, .slice lo' lk lc] 64) := ⟨_, rfl⟩
  have BX : Hid (Blk X w.heap.size #[.int .i64 c, .slice so sk sc, .slice lo' lk lc] 64 ∧ Below w.heap.size w X) := by rw [hX]; exact ⟨Blk.new rfl, (Below.refl _ _).alloc (Nat.le_refl _) _⟩
  have x1 := BX.out.1.cell (j := 1) (v := .slice so sk sc) rfl
  have x2 := BX.out.1.cell (j := 2) (v := .slice lo' lk lc) rfl
  rcases h with ⟨h0, e1, e2, rfl⟩ | ⟨h0, hr, h1, g, cap, e, h2⟩
  · have c1 : Calls Try.prog 78 #[.slice so sk sc, .int .i64 1] X fun e w' => e = .returned (.int .i64 1) ∧ X = w' := by rw [e1]; exact heldSl_none _ _ _ _
    have c2 : Calls Try.prog 64 #[.slice lo' lk lc, .int .i64 1] X fun e w' => e = .returned (.int .i64 1) ∧ X = w' := by rw [e2]; exact heldLits_none _ _ _ _
    clear h0 hn e1 e2
    go_enter Try.func38, Try.ntmps38
    go_upto_region 1 with fail
    rw [← hX]
    clear hX
    go_wp2_with fail
    refine c1.mono ?_
    rintro e w1 ⟨rfl, rfl⟩
    go_wp2_with fail
    refine c2.mono ?_
    rintro e w1 ⟨rfl, rfl⟩
    clear x1 x2 c1 c2
    go_wp2
    go_ret
    exact ⟨rfl, BX.out.2⟩
  · have hX0 : Hid (OwLs lo mid X g n (mkL (mG 1 len) L)) := h2.keep (Keep.of BX.out.2 (by omega))
    have c1 := heldSl_any (w := X) (sv := .slice so sk sc) (mid := mid) (hi := hi) (len := len) (h1.imp id fun ⟨g, cap, a, b, d, q⟩ => ⟨g, cap, a, b, d, q.below BX.out.2⟩) (hn h0).1
    have HN : Hid (len ≤ 1048576 ∧ LFew n L ∧ r = mLs (mG 1 len) L n) := ⟨(hn h0).1, (hn h0).2, hr⟩
    have k0 : 0 ≤ mG 1 len := by unfold mG; omega
    have k1 : mG 1 len ≤ 100000000 := by have := HN.out.1; unfold mG; omega
    have hr0 : 0 ≤ r := by rw [hr]; have := mLs_lo (mG 1 len) L n; omega
    clear h1 h2 h0 hn hr
    obtain ⟨e1, e2, e3⟩ : some ⟨g, 0, none⟩ = lo' ∧ n = lk ∧ cap = lc := by simp at e; exact ⟨e.1.symm, e.2.1.symm, e.2.2.symm⟩
    clear e
    subst e1
    subst e2
    subst e3
    obtain ⟨K, hK⟩ : ∃ K, K = mG 1 len := ⟨_, rfl⟩
    have HK : Hid (K = mG 1 len) := hK
    rw [← hK] at c1 k0 k1
    clear hK
    go_enter Try.func38, Try.ntmps38
    go_upto_region 1 with fail
    rw [← hX]
    clear hX
    go_wp2_with fail
    refine c1.mono ?_
    rintro e w1 ⟨rfl, rfl⟩
    go_wp2_with fail
    have c2 := heldLits_any (cap := cap) (mG 1 len) hX0.out (by rw [← HK.out]; exact k0) (by rw [← HK.out]; exact k1) HN.out.2.1
    rw [← HN.out.2.2, ← HK.out] at c2
    refine c2.mono ?_
    rintro e w1 ⟨rfl, rfl⟩
    clear x1 x2 c1 c2
    go_wp2
    go_ret
    exact ⟨rfl, BX.out.2⟩
end Go.Proofs.Ytinfbbbgfkaioaa
end
section
namespace Go.Proofs.Ytinfbbbgfkaioaa
open Go.RowKit
set_option linter.unusedVariables false
/-- What TidyNet answers, in memory of its own from lo on, below hi. -/
def OwnU (lo hi : Nat) (w : World) (c : Int) (sv lv : Value) (xs : List (Int × Int)) (n : Nat) (L : Nat → Li) : Prop := ∃ mid, lo ≤ mid ∧ mid ≤ hi ∧ OwnT lo mid hi w c sv lv xs n L
theorem OwnU.keep {lo hi : Nat} {w w' : World} {c : Int} {sv lv : Value} {xs : List (Int × Int)} {n : Nat} {L : Nat → Li} (h : OwnU lo hi w c sv lv xs n L) (hk : Keep lo hi w w') : OwnU lo hi w' c sv lv xs n L := by
  obtain ⟨mid, h1, h2, h3⟩ := h
  exact ⟨mid, h1, h2, h3.keep hk h1 h2⟩
theorem OwnU.rd {lo hi : Nat} {w : World} {c : Int} {sv lv : Value} {xs : List (Int × Int)} {n : Nat} {L : Nat → Li} (h : OwnU lo hi w c sv lv xs n L) : OutZ w c sv lv xs n L := by
  obtain ⟨mid, h1, h2, h3⟩ := h
  exact h3.rd
def MkdU (lo hi : Nat) (w : World) (c : Int) (sv lv : Value) (len n : Nat) (L : Nat → Li) (r : Int) : Prop := ∃ mid, lo ≤ mid ∧ mid ≤ hi ∧ MkdT lo mid hi w c sv lv len n L r
theorem MkdU.keep {lo hi : Nat} {w w' : World} {c : Int} {sv lv : Value} {len n : Nat} {L : Nat → Li} {r : Int} (h : MkdU lo hi w c sv lv len n L r) (hk : Keep lo hi w w') : MkdU lo hi w' c sv lv len n L r := by
  obtain ⟨mid, h1, h2, h3⟩ := h
  exact ⟨mid, h1, h2, h3.keep hk h1 h2⟩
theorem MkdU.pos {lo hi : Nat} {w : World} {c : Int} {sv lv : Value} {len n : Nat} {L : Nat → Li} {r : Int} (h : MkdU lo hi w c sv lv len n L r) : 0 ≤ r := by
  obtain ⟨mid, h1, h2, h3⟩ := h
  exact h3.pos
theorem markU_any {lo hi : Nat} {w : World} {c : Int} {so lo' : Option Addr} {sk sc lk lc : Nat} {xs : List (Int × Int)} {n : Nat} {L : Nat → Li} (h : OwnU lo hi w c (.slice so sk sc) (.slice lo' lk lc) xs n L) (hn : c = 0 → xs.length ≤ 1048576 ∧ LFew n L) (hhi : hi ≤ w.heap.size) :
    Calls Try.prog 37 #[.agg #[.int .i64 c, .slice so sk sc, .slice lo' lk lc], .int .i64 1] w fun e w' => ∃ r, e = .returned (.int .i64 r) ∧ MkdU lo hi w' c (.slice so sk sc) (.slice lo' lk lc) xs.length n L r ∧ Within lo hi w w' := by
  obtain ⟨mid, h1, h2, h3⟩ := h
  refine (markT_any h3 hn h1 h2 hhi).mono ?_
  rintro e w' ⟨r, rfl, a1, a2⟩
  exact ⟨r, rfl, ⟨mid, h1, h2, a1⟩, a2⟩
theorem heldU_any {lo hi : Nat} {w : World} {c : Int} {so lo' : Option Addr} {sk sc lk lc len : Nat} {n : Nat} {L : Nat → Li} {r : Int} (h : MkdU lo hi w c (.slice so sk sc) (.slice lo' lk lc) len n L r) (hn : c = 0 → len ≤ 1048576 ∧ LFew n L) (hhi : hi ≤ w.heap.size) :
    Calls Try.prog 38 #[.agg #[.int .i64 c, .slice so sk sc, .slice lo' lk lc], .int .i64 1] w fun e w' => e = .returned (.int .i64 r) ∧ Below w.heap.size w w' := by
  obtain ⟨mid, h1, h2, h3⟩ := h
  exact heldT_any h3 hn h1 h2 hhi
theorem iTidy_any {w : World} {ao : Option Addr} {nf cp n cl lbk lof : Nat} {nodes slots : Int} {F : Nat → Fb} {L : Nat → Li} {c : Int} (hcc : c = Nt.lfault nodes slots nf F n L) (h : Rf w (.slice ao nf cp) nf F) (hl : RdL w (.slice (some ⟨lbk, lof, none⟩) n cl) n L) (hf : nf ≤ 1048576) (hw : LFew n L) (hcp : nf ≤ cp) (hd : LBd n L) :
    Calls Try.prog 35 #[.agg #[.int .i64 nodes, .int .i64 slots, .slice ao nf cp], .slice (some ⟨lbk, lof, none⟩) n cl] w fun e w' => ∃ sv lv, e = .returned (.agg #[.int .i64 c, sv, lv]) ∧ OwnU w.heap.size w'.heap.size w' c sv lv (Nt.fin n L).sl n (Nt.fin n L).L ∧ Below w.heap.size w w' := by
  by_cases hn : 0 < n
  · refine (iTidy_some hcc hn h hl hf hw hcp hd).mono ?_
    rintro e w' ⟨sv, lv, mid, rfl, ⟨a1, a2, a3⟩, a4⟩
    exact ⟨sv, lv, rfl, ⟨mid, a1, a2, a3⟩, a4⟩
  · obtain rfl : n = 0 := by omega
    refine (iTidy_none hcc h hl hf hw hcp hd).mono ?_
    rintro e w' ⟨sv, lv, mid, rfl, ⟨a1, a2, a3⟩, a4⟩
    exact ⟨sv, lv, rfl, ⟨mid, a1, a2, a3⟩, a4⟩
theorem sTidy_z {w : World} {ao lo : Option Addr} {nf cp n cl : Nat} {nodes slots : Int} {F : Nat → Fb} {L : Nat → Li} {c : Int} (hcc : c = Nt.lfault nodes slots nf F n L) (h : Rf w (.slice ao nf cp) nf F) (hl : RdL w (.slice lo n cl) n L) (hf : nf ≤ 1048576) (hw : LFew n L) :
    Calls Try.prog 34 #[.agg #[.int .i64 nodes, .int .i64 slots, .slice ao nf cp], .slice lo n cl] w fun e w' => ∃ sv lv, e = .returned (.agg #[.int .i64 c, sv, lv]) ∧ OutZ w' c sv lv (Nt.fin n L).sl n (Nt.fin n L).L ∧ Below w.heap.size w w' := by
  refine (sTidy_any hcc h hl hf hw).mono ?_
  rintro e w' ⟨sv, lv, mid, rfl, ⟨a1, a2, a3⟩, a4⟩
  exact ⟨sv, lv, rfl, a3.rd, a4⟩
theorem tidy_few {nodes slots : Int} {nf : Nat} {F : Nat → Fb} {n : Nat} {L : Nat → Li} {c : Int} (hc : c = Nt.lfault nodes slots nf F n L) (hz : c = 0) (h : LFew n L) : (Nt.fin n L).sl.length ≤ 1048576 ∧ LFew n (Nt.fin n L).L := by
  obtain ⟨G, hn40, hO⟩ := lf_good (by rw [← hc]; exact hz)
  have s64 := G.s64
  have a3 := Nt.rds_room (n := n) (r := Nt.fsum L n) (s := ⟨L, []⟩)
  have a4 : Nt.fsum L n ≤ n * 64 := Nt.fsum_le fun i hi => by have a := (hO.ok i hi).top; have b := (hO.ok i hi).w1; have c := (hO.ok i hi).f0; omega
  have a5 : n * 64 ≤ 40 * 64 := Nat.mul_le_mul_right _ hn40
  refine ⟨?_, few_np h fun i => rds_np n i (Nt.fsum L n) ⟨L, []⟩⟩
  show (Nt.rds n (Nt.fsum L n) ⟨L, []⟩).sl.length ≤ _
  simp at a3
  omega
end Go.Proofs.Ytinfbbbgfkaioaa
end
