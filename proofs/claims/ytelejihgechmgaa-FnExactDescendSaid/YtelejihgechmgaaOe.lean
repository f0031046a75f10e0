/- A path in its box, beside the result's box: what a taken point does. -/
import Derived.Test.YtelejihgechmgaaOd
namespace Go.Proofs.Ytelejihgechmgaa
open Go.RowKit
set_option linter.unusedVariables false
set_option linter.unusedSimpArgs false
structure Go3 (w : World) (lo rb bx : Nat) (vp vm : Value) (bs cs : Nat → Nat) (d : Nat) (ps : List Mt.Pnt) (ms : List Int) : Prop where
  pth : Pth w lo vp vm bs cs d ps ms
  box : Blk w bx #[.int .i64 0, vp, vm] 55
  res : Blk w rb #[.int .i64 0, .slice none 0 0, .slice none 0 0] 55
  ne : rb ≠ bx
  lob : lo ≤ bx
  lor : lo ≤ rb
section
variable {w w2 w4 : World} {lo rb bx d g c : Nat} {vp vm v' : Value} {bs cs : Nat → Nat} {ps : List Mt.Pnt} {ms : List Int} {y : Mt.Pnt}
theorem Go3.later {w' : World} (h : Go3 w lo rb bx vp vm bs cs d ps ms) (hb : Below w.heap.size w w') : Go3 w' lo rb bx vp vm bs cs d ps ms := ⟨h.pth.later hb, h.box.old hb, h.res.old hb, h.ne, h.lob, h.lor⟩
theorem Go3.low (h : Go3 w lo rb bx vp vm bs cs d ps ms) : lo ≤ w.heap.size := Nat.le_of_lt (Nat.lt_of_le_of_lt h.lob h.box.lt)
theorem ownsB_ne {m n b : Nat} {t t' : TypeId} {v : Value} {xs : List Value} {cs' : Array Value} (h : w.ownsRow lo t m v n xs) (hb : Blk w b cs' t') (ht : t ≠ t') : ∀ g, v.ownBlock = some g → g ≠ b := fun g e q => by
  subst q
  obtain ⟨cur, e2⟩ := owns_blk h e
  have hb' : w.heap[g]? = some (.cells cs' t' (0, 0)) := hb
  rw [hb'] at e2
  simp at e2
  exact ht e2.2.symm
theorem Go3.takeP (h : Go3 w lo rb bx vp vm bs cs d ps ms) (hb : Below w.heap.size w w2) (hg0 : w.heap.size ≤ g) (hs : Seg w2 g 2 0 d (fun j => .int .i64 (y j))) (ho : w4.ownsRow lo 24 1 v' (ps.length + 1) (rvs bs cs d ps.length ++ [.slice (some ⟨g, 0, none⟩) d c])) (hg : (w2.alloc (.cells #[.slice (some ⟨g, 0, none⟩) d c] 24)).grownBy w4 vp.ownBlock) :
    Go3 (w4.setCell ⟨bx, 1, none⟩ v') lo rb bx v' vm (upd bs ps.length g) (upd cs ps.length c) d (ps ++ [y]) ms ∧ Below lo w (w4.setCell ⟨bx, 1, none⟩ v') := by
  have h2 := h.later hb
  have hP := h2.pth.pushP hs (Nat.le_trans h.low hg0) (fun i hi e => by have := (h.pth.row i hi).lt; omega) (fun e => by have := (h.pth.mer.lt g e).2; omega) ho hg
  have hB4 : Blk w4 bx #[.int .i64 0, vp, vm] 55 := (h2.box.alloc _).grownBy hg (ownsB_ne h2.pth.top h2.box (by decide))
  have hR4 : Blk w4 rb #[.int .i64 0, .slice none 0 0, .slice none 0 0] 55 := (h2.res.alloc _).grownBy hg (ownsB_ne h2.pth.top h2.res (by decide))
  refine ⟨⟨hP.box hB4 (by decide), hB4.set 1 _ rfl, hR4.setOther h.ne _, h.ne, h.lob, h.lor⟩, ?_⟩
  exact (pushV_below h2.pth.top hg (hb.mono h.low) h2.low).setCell h.lob _
theorem Go3.takeM {x : Int} {a4 : Option Addr} {c4 : Nat} (h : Go3 w lo rb bx vp vm bs cs d ps ms) (ho : Ol w4 lo (.slice a4 (ms.length + 1) c4) (ms ++ [x])) (hg : (w.alloc (.cells #[.int .i64 x] 2)).grownBy w4 vm.ownBlock) (hp : (Value.slice a4 (ms.length + 1) c4).ownBlock = vm.ownBlock ∨ (Value.slice a4 (ms.length + 1) c4).ownBlock = some (w.heap.size + 1)) :
    Go3 (w4.setCell ⟨bx, 2, none⟩ (.slice a4 (ms.length + 1) c4)) lo rb bx vp (.slice a4 (ms.length + 1) c4) bs cs d ps (ms ++ [x]) ∧ Below lo w (w4.setCell ⟨bx, 2, none⟩ (.slice a4 (ms.length + 1) c4)) := by
  have hP := h.pth.pushM ho hg hp
  have hB4 : Blk w4 bx #[.int .i64 0, vp, vm] 55 := (h.box.alloc _).grownBy hg (ownsB_ne h.pth.mer h.box (by decide))
  have hR4 : Blk w4 rb #[.int .i64 0, .slice none 0 0, .slice none 0 0] 55 := (h.res.alloc _).grownBy hg (ownsB_ne h.pth.mer h.res (by decide))
  refine ⟨⟨hP.box hB4 (by decide), hB4.set 2 _ rfl, hR4.setOther h.ne _, h.ne, h.lob, h.lor⟩, ?_⟩
  exact (pushV_below h.pth.mer hg (Below.refl _ _) h.low).setCell h.lob _
end
theorem owns_shape {w : World} {lo m n : Nat} {t : TypeId} {v : Value} {xs : List Value} (h : w.ownsRow lo t m v n xs) : ∃ ao cap, v = .slice ao n cap := by
  obtain ⟨h0, h1 | ⟨g, cap, cur, hv, hg, r⟩⟩ := h
  · exact ⟨none, 0, by rw [h1.1, h1.2]⟩
  · exact ⟨_, _, hv⟩
theorem info24 : (Try.prog.info? 24).map (fun i => (i.zero, i.size, i.bytes)) = some (some (.slice none 0 0), 1, 24) := by kernel_rfl
/-- 'append(points, point)'. -/
theorem pushPt {ops : Array Oper} {rest : List Oper} {o : Oper} {a : Act} {Q : Exit → Act → World → Prop} (hgd : o.guard = none) (s x : Operand)
    (ho : o.op = .call { callee := .builtin .append, args := #[s, x], argTypes := #[53, 53] }) (w : World) (lo : Nat) (v : Value) (N : Nat) (xs : List Value) (hs : a.eval s = v) (hown : w.ownsRow lo 24 1 v N xs) (g d cp c : Nat) (hx : a.eval x = .slice (some ⟨w.heap.size, 0, none⟩) 1 c) (hn : N ≤ 1000000000) (hbase : lo ≤ w.heap.size)
    (h : ∀ pa pc w', w'.ownsRow lo 24 1 (.slice pa (N + 1) pc) (N + 1) (xs ++ [.slice (some ⟨g, 0, none⟩) d cp]) → (w.alloc (.cells #[.slice (some ⟨g, 0, none⟩) d cp] 24)).grownBy w' v.ownBlock → wpList Try.prog ops Q rest (a.put o.dst (.slice pa (N + 1) pc)) w') :
    wpList Try.prog ops Q (o :: rest) a (w.alloc (.cells #[.slice (some ⟨g, 0, none⟩) d cp] 24)) :=
  pushV hgd s x 53 ho 24 (.slice none 0 0) 1 24 Try.underlying53 info24 rfl (by decide) (by decide) w [.slice (some ⟨g, 0, none⟩) d cp] rfl (by intro u hu; simp at hu; subst hu; rfl) lo v N xs hs hown c hx hn hbase fun v' w' r1 r2 _ => by obtain ⟨pa, pc, rfl⟩ := owns_shape r1; exact h pa pc w' r1 r2
end Go.Proofs.Ytelejihgechmgaa
