/- Plain surfaces: lists of them compared. -/
import Derived.Test.YtjibogknakaokaaPa
import Derived.Test.YtjibogknakaokaaBk
namespace Go.Proofs.Ytjibogknakaokaa
open Go.RowKit
set_option linter.unusedVariables false
set_option linter.unusedSimpArgs false
set_option maxRecDepth 20000 in
set_option maxHeartbeats 1600000 in
theorem eqPs_same (g : Ps) (w : World) : Calls Try.prog 65 #[.agg #[.int .i64 g.c.n, .int .i64 g.c.d, .int .i64 g.g.n, .int .i64 g.g.d, .int .i64 g.x.n, .int .i64 g.x.d, .int .i64 g.s.n, .int .i64 g.s.d, .int .i64 g.k.n, .int .i64 g.k.d, .bool g.t], .agg #[.int .i64 g.c.n, .int .i64 g.c.d, .int .i64 g.g.n, .int .i64 g.g.d, .int .i64 g.x.n, .int .i64 g.x.d, .int .i64 g.s.n, .int .i64 g.s.d, .int .i64 g.k.n, .int .i64 g.k.d, .bool g.t]] w fun e w' => e = .returned (.bool true) ∧ Below w.heap.size w w' := by
  have hst : (g.t != g.t) = false := by simp
  go_enter Try.func65, Try.ntmps65
  go_wp2_with fail
  refine (eqFrac_same g.c.n g.c.d _).mono ?_
  rintro e w1 ⟨rfl, hb⟩
  have HO : Hid (Below w.heap.size w w1) := by refine box_step ?_ hb (by simp <;> omega); go_grown
  have X0 : Blk w1 (w.heap.size) #[.int .i64 g.c.n, .int .i64 g.c.d, .int .i64 g.g.n, .int .i64 g.g.d, .int .i64 g.x.n, .int .i64 g.x.d, .int .i64 g.s.n, .int .i64 g.s.d, .int .i64 g.k.n, .int .i64 g.k.d, .bool g.t] 101 := Blk.old ((Blk.alloc (Blk.new (by simp)) _)) hb
  have K0 : Hid (w1.cell? ⟨w.heap.size, 0, none⟩ = some (.int .i64 g.c.n)) := X0.cell rfl
  have K1 : Hid (w1.cell? ⟨w.heap.size, 1, none⟩ = some (.int .i64 g.c.d)) := X0.cell rfl
  have K2 : Hid (w1.cell? ⟨w.heap.size, 2, none⟩ = some (.int .i64 g.g.n)) := X0.cell rfl
  have K3 : Hid (w1.cell? ⟨w.heap.size, 3, none⟩ = some (.int .i64 g.g.d)) := X0.cell rfl
  have K4 : Hid (w1.cell? ⟨w.heap.size, 4, none⟩ = some (.int .i64 g.x.n)) := X0.cell rfl
  have K5 : Hid (w1.cell? ⟨w.heap.size, 5, none⟩ = some (.int .i64 g.x.d)) := X0.cell rfl
  have K6 : Hid (w1.cell? ⟨w.heap.size, 6, none⟩ = some (.int .i64 g.s.n)) := X0.cell rfl
  have K7 : Hid (w1.cell? ⟨w.heap.size, 7, none⟩ = some (.int .i64 g.s.d)) := X0.cell rfl
  have K8 : Hid (w1.cell? ⟨w.heap.size, 8, none⟩ = some (.int .i64 g.k.n)) := X0.cell rfl
  have K9 : Hid (w1.cell? ⟨w.heap.size, 9, none⟩ = some (.int .i64 g.k.d)) := X0.cell rfl
  have K10 : Hid (w1.cell? ⟨w.heap.size, 10, none⟩ = some (.bool g.t)) := X0.cell rfl
  clear X0
  have X1 : Blk w1 (w.heap.size + 1) #[.int .i64 g.c.n, .int .i64 g.c.d, .int .i64 g.g.n, .int .i64 g.g.d, .int .i64 g.x.n, .int .i64 g.x.d, .int .i64 g.s.n, .int .i64 g.s.d, .int .i64 g.k.n, .int .i64 g.k.d, .bool g.t] 101 := Blk.old ((Blk.new (by simp))) hb
  have K11 : Hid (w1.cell? ⟨w.heap.size + 1, 0, none⟩ = some (.int .i64 g.c.n)) := X1.cell rfl
  have K12 : Hid (w1.cell? ⟨w.heap.size + 1, 1, none⟩ = some (.int .i64 g.c.d)) := X1.cell rfl
  have K13 : Hid (w1.cell? ⟨w.heap.size + 1, 2, none⟩ = some (.int .i64 g.g.n)) := X1.cell rfl
  have K14 : Hid (w1.cell? ⟨w.heap.size + 1, 3, none⟩ = some (.int .i64 g.g.d)) := X1.cell rfl
  have K15 : Hid (w1.cell? ⟨w.heap.size + 1, 4, none⟩ = some (.int .i64 g.x.n)) := X1.cell rfl
  have K16 : Hid (w1.cell? ⟨w.heap.size + 1, 5, none⟩ = some (.int .i64 g.x.d)) := X1.cell rfl
  have K17 : Hid (w1.cell? ⟨w.heap.size + 1, 6, none⟩ = some (.int .i64 g.s.n)) := X1.cell rfl
  have K18 : Hid (w1.cell? ⟨w.heap.size + 1, 7, none⟩ = some (.int .i64 g.s.d)) := X1.cell rfl
  have K19 : Hid (w1.cell? ⟨w.heap.size + 1, 8, none⟩ = some (.int .i64 g.k.n)) := X1.cell rfl
  have K20 : Hid (w1.cell? ⟨w.heap.size + 1, 9, none⟩ = some (.int .i64 g.k.d)) := X1.cell rfl
  have K21 : Hid (w1.cell? ⟨w.heap.size + 1, 10, none⟩ = some (.bool g.t)) := X1.cell rfl
  clear X1
  clear hb
  have c0 := K0.out
  have c1 := K1.out
  have c2 := K2.out
  have c3 := K3.out
  have c4 := K4.out
  have c5 := K5.out
  have c6 := K6.out
  have c7 := K7.out
  have c8 := K8.out
  have c9 := K9.out
  have c10 := K10.out
  have c11 := K11.out
  have c12 := K12.out
  have c13 := K13.out
  have c14 := K14.out
  have c15 := K15.out
  have c16 := K16.out
  have c17 := K17.out
  have c18 := K18.out
  have c19 := K19.out
  have c20 := K20.out
  have c21 := K21.out
  go_wp2_with fail
  refine (eqFrac_same g.g.n g.g.d _).mono ?_
  rintro e w2 ⟨rfl, hb⟩
  clear c0 c1 c2 c3 c4 c5 c6 c7 c8 c9 c10 c11 c12 c13 c14 c15 c16 c17 c18 c19 c20 c21
  have HO : Hid (Below w.heap.size w w2) := by have h := HO.out; have hs := h.size; refine box_step ?_ hb (by first | exact hs | (simp <;> omega)); go_grown
  have K22 : Hid (w2.cell? ⟨w.heap.size, 0, none⟩ = some (.int .i64 g.c.n)) := kold hb (K0.out)
  have K23 : Hid (w2.cell? ⟨w.heap.size, 1, none⟩ = some (.int .i64 g.c.d)) := kold hb (K1.out)
  have K24 : Hid (w2.cell? ⟨w.heap.size, 2, none⟩ = some (.int .i64 g.g.n)) := kold hb (K2.out)
  have K25 : Hid (w2.cell? ⟨w.heap.size, 3, none⟩ = some (.int .i64 g.g.d)) := kold hb (K3.out)
  have K26 : Hid (w2.cell? ⟨w.heap.size, 4, none⟩ = some (.int .i64 g.x.n)) := kold hb (K4.out)
  have K27 : Hid (w2.cell? ⟨w.heap.size, 5, none⟩ = some (.int .i64 g.x.d)) := kold hb (K5.out)
  have K28 : Hid (w2.cell? ⟨w.heap.size, 6, none⟩ = some (.int .i64 g.s.n)) := kold hb (K6.out)
  have K29 : Hid (w2.cell? ⟨w.heap.size, 7, none⟩ = some (.int .i64 g.s.d)) := kold hb (K7.out)
  have K30 : Hid (w2.cell? ⟨w.heap.size, 8, none⟩ = some (.int .i64 g.k.n)) := kold hb (K8.out)
  have K31 : Hid (w2.cell? ⟨w.heap.size, 9, none⟩ = some (.int .i64 g.k.d)) := kold hb (K9.out)
  have K32 : Hid (w2.cell? ⟨w.heap.size, 10, none⟩ = some (.bool g.t)) := kold hb (K10.out)
  have K33 : Hid (w2.cell? ⟨w.heap.size + 1, 0, none⟩ = some (.int .i64 g.c.n)) := kold hb (K11.out)
  have K34 : Hid (w2.cell? ⟨w.heap.size + 1, 1, none⟩ = some (.int .i64 g.c.d)) := kold hb (K12.out)
  have K35 : Hid (w2.cell? ⟨w.heap.size + 1, 2, none⟩ = some (.int .i64 g.g.n)) := kold hb (K13.out)
  have K36 : Hid (w2.cell? ⟨w.heap.size + 1, 3, none⟩ = some (.int .i64 g.g.d)) := kold hb (K14.out)
  have K37 : Hid (w2.cell? ⟨w.heap.size + 1, 4, none⟩ = some (.int .i64 g.x.n)) := kold hb (K15.out)
  have K38 : Hid (w2.cell? ⟨w.heap.size + 1, 5, none⟩ = some (.int .i64 g.x.d)) := kold hb (K16.out)
  have K39 : Hid (w2.cell? ⟨w.heap.size + 1, 6, none⟩ = some (.int .i64 g.s.n)) := kold hb (K17.out)
  have K40 : Hid (w2.cell? ⟨w.heap.size + 1, 7, none⟩ = some (.int .i64 g.s.d)) := kold hb (K18.out)
  have K41 : Hid (w2.cell? ⟨w.heap.size + 1, 8, none⟩ = some (.int .i64 g.k.n)) := kold hb (K19.out)
  have K42 : Hid (w2.cell? ⟨w.heap.size + 1, 9, none⟩ = some (.int .i64 g.k.d)) := kold hb (K20.out)
  have K43 : Hid (w2.cell? ⟨w.heap.size + 1, 10, none⟩ = some (.bool g.t)) := kold hb (K21.out)
  clear K0 K1 K2 K3 K4 K5 K6 K7 K8 K9 K10 K11 K12 K13 K14 K15 K16 K17 K18 K19 K20 K21
  clear hb
  have c0 := K22.out
  have c1 := K23.out
  have c2 := K24.out
  have c3 := K25.out
  have c4 := K26.out
  have c5 := K27.out
  have c6 := K28.out
  have c7 := K29.out
  have c8 := K30.out
  have c9 := K31.out
  have c10 := K32.out
  have c11 := K33.out
  have c12 := K34.out
  have c13 := K35.out
  have c14 := K36.out
  have c15 := K37.out
  have c16 := K38.out
  have c17 := K39.out
  have c18 := K40.out
  have c19 := K41.out
  have c20 := K42.out
  have c21 := K43.out
  go_wp2_with fail
  refine (eqFrac_same g.x.n g.x.d _).mono ?_
  rintro e w3 ⟨rfl, hb⟩
  clear c0 c1 c2 c3 c4 c5 c6 c7 c8 c9 c10 c11 c12 c13 c14 c15 c16 c17 c18 c19 c20 c21
  have HO : Hid (Below w.heap.size w w3) := by have h := HO.out; have hs := h.size; refine box_step ?_ hb (by first | exact hs | (simp <;> omega)); go_grown
  have K44 : Hid (w3.cell? ⟨w.heap.size, 0, none⟩ = some (.int .i64 g.c.n)) := kold hb (K22.out)
  have K45 : Hid (w3.cell? ⟨w.heap.size, 1, none⟩ = some (.int .i64 g.c.d)) := kold hb (K23.out)
  have K46 : Hid (w3.cell? ⟨w.heap.size, 2, none⟩ = some (.int .i64 g.g.n)) := kold hb (K24.out)
  have K47 : Hid (w3.cell? ⟨w.heap.size, 3, none⟩ = some (.int .i64 g.g.d)) := kold hb (K25.out)
  have K48 : Hid (w3.cell? ⟨w.heap.size, 4, none⟩ = some (.int .i64 g.x.n)) := kold hb (K26.out)
  have K49 : Hid (w3.cell? ⟨w.heap.size, 5, none⟩ = some (.int .i64 g.x.d)) := kold hb (K27.out)
  have K50 : Hid (w3.cell? ⟨w.heap.size, 6, none⟩ = some (.int .i64 g.s.n)) := kold hb (K28.out)
  have K51 : Hid (w3.cell? ⟨w.heap.size, 7, none⟩ = some (.int .i64 g.s.d)) := kold hb (K29.out)
  have K52 : Hid (w3.cell? ⟨w.heap.size, 8, none⟩ = some (.int .i64 g.k.n)) := kold hb (K30.out)
  have K53 : Hid (w3.cell? ⟨w.heap.size, 9, none⟩ = some (.int .i64 g.k.d)) := kold hb (K31.out)
  have K54 : Hid (w3.cell? ⟨w.heap.size, 10, none⟩ = some (.bool g.t)) := kold hb (K32.out)
  have K55 : Hid (w3.cell? ⟨w.heap.size + 1, 0, none⟩ = some (.int .i64 g.c.n)) := kold hb (K33.out)
  have K56 : Hid (w3.cell? ⟨w.heap.size + 1, 1, none⟩ = some (.int .i64 g.c.d)) := kold hb (K34.out)
  have K57 : Hid (w3.cell? ⟨w.heap.size + 1, 2, none⟩ = some (.int .i64 g.g.n)) := kold hb (K35.out)
  have K58 : Hid (w3.cell? ⟨w.heap.size + 1, 3, none⟩ = some (.int .i64 g.g.d)) := kold hb (K36.out)
  have K59 : Hid (w3.cell? ⟨w.heap.size + 1, 4, none⟩ = some (.int .i64 g.x.n)) := kold hb (K37.out)
  have K60 : Hid (w3.cell? ⟨w.heap.size + 1, 5, none⟩ = some (.int .i64 g.x.d)) := kold hb (K38.out)
  have K61 : Hid (w3.cell? ⟨w.heap.size + 1, 6, none⟩ = some (.int .i64 g.s.n)) := kold hb (K39.out)
  have K62 : Hid (w3.cell? ⟨w.heap.size + 1, 7, none⟩ = some (.int .i64 g.s.d)) := kold hb (K40.out)
  have K63 : Hid (w3.cell? ⟨w.heap.size + 1, 8, none⟩ = some (.int .i64 g.k.n)) := kold hb (K41.out)
  have K64 : Hid (w3.cell? ⟨w.heap.size + 1, 9, none⟩ = some (.int .i64 g.k.d)) := kold hb (K42.out)
  have K65 : Hid (w3.cell? ⟨w.heap.size + 1, 10, none⟩ = some (.bool g.t)) := kold hb (K43.out)
  clear K22 K23 K24 K25 K26 K27 K28 K29 K30 K31 K32 K33 K34 K35 K36 K37 K38 K39 K40 K41 K42 K43
  clear hb
  have c0 := K44.out
  have c1 := K45.out
  have c2 := K46.out
  have c3 := K47.out
  have c4 := K48.out
  have c5 := K49.out
  have c6 := K50.out
  have c7 := K51.out
  have c8 := K52.out
  have c9 := K53.out
  have c10 := K54.out
  have c11 := K55.out
  have c12 := K56.out
  have c13 := K57.out
  have c14 := K58.out
  have c15 := K59.out
  have c16 := K60.out
  have c17 := K61.out
  have c18 := K62.out
  have c19 := K63.out
  have c20 := K64.out
  have c21 := K65.out
  go_wp2_with fail
  refine (eqFrac_same g.s.n g.s.d _).mono ?_
  rintro e w4 ⟨rfl, hb⟩
  clear c0 c1 c2 c3 c4 c5 c6 c7 c8 c9 c10 c11 c12 c13 c14 c15 c16 c17 c18 c19 c20 c21
  have HO : Hid (Below w.heap.size w w4) := by have h := HO.out; have hs := h.size; refine box_step ?_ hb (by first | exact hs | (simp <;> omega)); go_grown
  have K66 : Hid (w4.cell? ⟨w.heap.size, 0, none⟩ = some (.int .i64 g.c.n)) := kold hb (K44.out)
  have K67 : Hid (w4.cell? ⟨w.heap.size, 1, none⟩ = some (.int .i64 g.c.d)) := kold hb (K45.out)
  have K68 : Hid (w4.cell? ⟨w.heap.size, 2, none⟩ = some (.int .i64 g.g.n)) := kold hb (K46.out)
  have K69 : Hid (w4.cell? ⟨w.heap.size, 3, none⟩ = some (.int .i64 g.g.d)) := kold hb (K47.out)
  have K70 : Hid (w4.cell? ⟨w.heap.size, 4, none⟩ = some (.int .i64 g.x.n)) := kold hb (K48.out)
  have K71 : Hid (w4.cell? ⟨w.heap.size, 5, none⟩ = some (.int .i64 g.x.d)) := kold hb (K49.out)
  have K72 : Hid (w4.cell? ⟨w.heap.size, 6, none⟩ = some (.int .i64 g.s.n)) := kold hb (K50.out)
  have K73 : Hid (w4.cell? ⟨w.heap.size, 7, none⟩ = some (.int .i64 g.s.d)) := kold hb (K51.out)
  have K74 : Hid (w4.cell? ⟨w.heap.size, 8, none⟩ = some (.int .i64 g.k.n)) := kold hb (K52.out)
  have K75 : Hid (w4.cell? ⟨w.heap.size, 9, none⟩ = some (.int .i64 g.k.d)) := kold hb (K53.out)
  have K76 : Hid (w4.cell? ⟨w.heap.size, 10, none⟩ = some (.bool g.t)) := kold hb (K54.out)
  have K77 : Hid (w4.cell? ⟨w.heap.size + 1, 0, none⟩ = some (.int .i64 g.c.n)) := kold hb (K55.out)
  have K78 : Hid (w4.cell? ⟨w.heap.size + 1, 1, none⟩ = some (.int .i64 g.c.d)) := kold hb (K56.out)
  have K79 : Hid (w4.cell? ⟨w.heap.size + 1, 2, none⟩ = some (.int .i64 g.g.n)) := kold hb (K57.out)
  have K80 : Hid (w4.cell? ⟨w.heap.size + 1, 3, none⟩ = some (.int .i64 g.g.d)) := kold hb (K58.out)
  have K81 : Hid (w4.cell? ⟨w.heap.size + 1, 4, none⟩ = some (.int .i64 g.x.n)) := kold hb (K59.out)
  have K82 : Hid (w4.cell? ⟨w.heap.size + 1, 5, none⟩ = some (.int .i64 g.x.d)) := kold hb (K60.out)
  have K83 : Hid (w4.cell? ⟨w.heap.size + 1, 6, none⟩ = some (.int .i64 g.s.n)) := kold hb (K61.out)
  have K84 : Hid (w4.cell? ⟨w.heap.size + 1, 7, none⟩ = some (.int .i64 g.s.d)) := kold hb (K62.out)
  have K85 : Hid (w4.cell? ⟨w.heap.size + 1, 8, none⟩ = some (.int .i64 g.k.n)) := kold hb (K63.out)
  have K86 : Hid (w4.cell? ⟨w.heap.size + 1, 9, none⟩ = some (.int .i64 g.k.d)) := kold hb (K64.out)
  have K87 : Hid (w4.cell? ⟨w.heap.size + 1, 10, none⟩ = some (.bool g.t)) := kold hb (K65.out)
  clear K44 K45 K46 K47 K48 K49 K50 K51 K52 K53 K54 K55 K56 K57 K58 K59 K60 K61 K62 K63 K64 K65
  clear hb
  have c0 := K66.out
  have c1 := K67.out
  have c2 := K68.out
  have c3 := K69.out
  have c4 := K70.out
  have c5 := K71.out
  have c6 := K72.out
  have c7 := K73.out
  have c8 := K74.out
  have c9 := K75.out
  have c10 := K76.out
  have c11 := K77.out
  have c12 := K78.out
  have c13 := K79.out
  have c14 := K80.out
  have c15 := K81.out
  have c16 := K82.out
  have c17 := K83.out
  have c18 := K84.out
  have c19 := K85.out
  have c20 := K86.out
  have c21 := K87.out
  go_wp2_with fail
  refine (eqFrac_same g.k.n g.k.d _).mono ?_
  rintro e w5 ⟨rfl, hb⟩
  clear c0 c1 c2 c3 c4 c5 c6 c7 c8 c9 c10 c11 c12 c13 c14 c15 c16 c17 c18 c19 c20 c21
  have HO : Hid (Below w.heap.size w w5) := by have h := HO.out; have hs := h.size; refine box_step ?_ hb (by first | exact hs | (simp <;> omega)); go_grown
  have K88 : Hid (w5.cell? ⟨w.heap.size, 0, none⟩ = some (.int .i64 g.c.n)) := kold hb (K66.out)
  have K89 : Hid (w5.cell? ⟨w.heap.size, 1, none⟩ = some (.int .i64 g.c.d)) := kold hb (K67.out)
  have K90 : Hid (w5.cell? ⟨w.heap.size, 2, none⟩ = some (.int .i64 g.g.n)) := kold hb (K68.out)
  have K91 : Hid (w5.cell? ⟨w.heap.size, 3, none⟩ = some (.int .i64 g.g.d)) := kold hb (K69.out)
  have K92 : Hid (w5.cell? ⟨w.heap.size, 4, none⟩ = some (.int .i64 g.x.n)) := kold hb (K70.out)
  have K93 : Hid (w5.cell? ⟨w.heap.size, 5, none⟩ = some (.int .i64 g.x.d)) := kold hb (K71.out)
  have K94 : Hid (w5.cell? ⟨w.heap.size, 6, none⟩ = some (.int .i64 g.s.n)) := kold hb (K72.out)
  have K95 : Hid (w5.cell? ⟨w.heap.size, 7, none⟩ = some (.int .i64 g.s.d)) := kold hb (K73.out)
  have K96 : Hid (w5.cell? ⟨w.heap.size, 8, none⟩ = some (.int .i64 g.k.n)) := kold hb (K74.out)
  have K97 : Hid (w5.cell? ⟨w.heap.size, 9, none⟩ = some (.int .i64 g.k.d)) := kold hb (K75.out)
  have K98 : Hid (w5.cell? ⟨w.heap.size, 10, none⟩ = some (.bool g.t)) := kold hb (K76.out)
  have K99 : Hid (w5.cell? ⟨w.heap.size + 1, 0, none⟩ = some (.int .i64 g.c.n)) := kold hb (K77.out)
  have K100 : Hid (w5.cell? ⟨w.heap.size + 1, 1, none⟩ = some (.int .i64 g.c.d)) := kold hb (K78.out)
  have K101 : Hid (w5.cell? ⟨w.heap.size + 1, 2, none⟩ = some (.int .i64 g.g.n)) := kold hb (K79.out)
  have K102 : Hid (w5.cell? ⟨w.heap.size + 1, 3, none⟩ = some (.int .i64 g.g.d)) := kold hb (K80.out)
  have K103 : Hid (w5.cell? ⟨w.heap.size + 1, 4, none⟩ = some (.int .i64 g.x.n)) := kold hb (K81.out)
  have K104 : Hid (w5.cell? ⟨w.heap.size + 1, 5, none⟩ = some (.int .i64 g.x.d)) := kold hb (K82.out)
  have K105 : Hid (w5.cell? ⟨w.heap.size + 1, 6, none⟩ = some (.int .i64 g.s.n)) := kold hb (K83.out)
  have K106 : Hid (w5.cell? ⟨w.heap.size + 1, 7, none⟩ = some (.int .i64 g.s.d)) := kold hb (K84.out)
  have K107 : Hid (w5.cell? ⟨w.heap.size + 1, 8, none⟩ = some (.int .i64 g.k.n)) := kold hb (K85.out)
  have K108 : Hid (w5.cell? ⟨w.heap.size + 1, 9, none⟩ = some (.int .i64 g.k.d)) := kold hb (K86.out)
  have K109 : Hid (w5.cell? ⟨w.heap.size + 1, 10, none⟩ = some (.bool g.t)) := kold hb (K87.out)
  clear K66 K67 K68 K69 K70 K71 K72 K73 K74 K75 K76 K77 K78 K79 K80 K81 K82 K83 K84 K85 K86 K87
  clear hb
  have c0 := K88.out
  have c1 := K89.out
  have c2 := K90.out
  have c3 := K91.out
  have c4 := K92.out
  have c5 := K93.out
  have c6 := K94.out
  have c7 := K95.out
  have c8 := K96.out
  have c9 := K97.out
  have c10 := K98.out
  have c11 := K99.out
  have c12 := K100.out
  have c13 := K101.out
  have c14 := K102.out
  have c15 := K103.out
  have c16 := K104.out
  have c17 := K105.out
  have c18 := K106.out
  have c19 := K107.out
  have c20 := K108.out
  have c21 := K109.out
  go_wp2
  go_ret
  refine ⟨by first | rfl | simp, ?_⟩
  have h := HO.out
  have hsz := h.size
  go_grown
set_option maxRecDepth 20000 in
set_option maxHeartbeats 3200000 in
theorem eqPss_same (b cap b' cap' n : Nat) (G : Nat → Ps) (w : World) (hn : n ≤ 1000000000000) (hs : SegV w b 101 n 11 (fun i j => pcell (G i) j)) (ht : SegV w b' 101 n 11 (fun i j => pcell (G i) j)) :
    Calls Try.prog 25 #[.slice (some ⟨b, 0, none⟩) n cap, .slice (some ⟨b', 0, none⟩) n cap'] w fun e w' => e = .returned (.bool true) ∧ Below w.heap.size w w' := by
  have later : ∀ (wr : World) (p : Addr) {v : Value}, w.cell? p = some v → Below w.heap.size w wr → wr.cell? p = some v := fun wr p v h hb => (hb.cell (World.block_lt_of_cell? _ _ h)).trans h
  go_enter Try.func25, Try.ntmps25
  go_wp2_with fail
  go_loopw [5] (fun i wr => ∃ k : Nat, k ≤ n ∧ i = .int .i64 k ∧ Below w.heap.size w wr) (fun i _ => n - (intOf i).toNat)
  case atStart => exact ⟨0, Nat.zero_le _, rfl, Below.refl _ _⟩
  case round =>
    obtain ⟨k, hk, rfl, hb⟩ := hrel
    by_cases hkn : k < n
    · have p0 : ∀ W, Below w.heap.size w W → W.cell? ⟨b, k * 11, none⟩ = some (.int .i64 (G k).c.n) := fun W h => later W _ (hs.cell hkn (show 0 < 11 by omega)) h
      have q0 : ∀ W, Below w.heap.size w W → W.cell? ⟨b', k * 11, none⟩ = some (.int .i64 (G k).c.n) := fun W h => later W _ (ht.cell hkn (show 0 < 11 by omega)) h
      have p1 : ∀ W, Below w.heap.size w W → W.cell? ⟨b, k * 11 + 1, none⟩ = some (.int .i64 (G k).c.d) := fun W h => later W _ (hs.cell hkn (show 1 < 11 by omega)) h
      have q1 : ∀ W, Below w.heap.size w W → W.cell? ⟨b', k * 11 + 1, none⟩ = some (.int .i64 (G k).c.d) := fun W h => later W _ (ht.cell hkn (show 1 < 11 by omega)) h
      have p2 : ∀ W, Below w.heap.size w W → W.cell? ⟨b, k * 11 + 2, none⟩ = some (.int .i64 (G k).g.n) := fun W h => later W _ (hs.cell hkn (show 2 < 11 by omega)) h
      have q2 : ∀ W, Below w.heap.size w W → W.cell? ⟨b', k * 11 + 2, none⟩ = some (.int .i64 (G k).g.n) := fun W h => later W _ (ht.cell hkn (show 2 < 11 by omega)) h
      have p3 : ∀ W, Below w.heap.size w W → W.cell? ⟨b, k * 11 + 3, none⟩ = some (.int .i64 (G k).g.d) := fun W h => later W _ (hs.cell hkn (show 3 < 11 by omega)) h
      have q3 : ∀ W, Below w.heap.size w W → W.cell? ⟨b', k * 11 + 3, none⟩ = some (.int .i64 (G k).g.d) := fun W h => later W _ (ht.cell hkn (show 3 < 11 by omega)) h
      have p4 : ∀ W, Below w.heap.size w W → W.cell? ⟨b, k * 11 + 4, none⟩ = some (.int .i64 (G k).x.n) := fun W h => later W _ (hs.cell hkn (show 4 < 11 by omega)) h
      have q4 : ∀ W, Below w.heap.size w W → W.cell? ⟨b', k * 11 + 4, none⟩ = some (.int .i64 (G k).x.n) := fun W h => later W _ (ht.cell hkn (show 4 < 11 by omega)) h
      have p5 : ∀ W, Below w.heap.size w W → W.cell? ⟨b, k * 11 + 5, none⟩ = some (.int .i64 (G k).x.d) := fun W h => later W _ (hs.cell hkn (show 5 < 11 by omega)) h
      have q5 : ∀ W, Below w.heap.size w W → W.cell? ⟨b', k * 11 + 5, none⟩ = some (.int .i64 (G k).x.d) := fun W h => later W _ (ht.cell hkn (show 5 < 11 by omega)) h
      have p6 : ∀ W, Below w.heap.size w W → W.cell? ⟨b, k * 11 + 6, none⟩ = some (.int .i64 (G k).s.n) := fun W h => later W _ (hs.cell hkn (show 6 < 11 by omega)) h
      have q6 : ∀ W, Below w.heap.size w W → W.cell? ⟨b', k * 11 + 6, none⟩ = some (.int .i64 (G k).s.n) := fun W h => later W _ (ht.cell hkn (show 6 < 11 by omega)) h
      have p7 : ∀ W, Below w.heap.size w W → W.cell? ⟨b, k * 11 + 7, none⟩ = some (.int .i64 (G k).s.d) := fun W h => later W _ (hs.cell hkn (show 7 < 11 by omega)) h
      have q7 : ∀ W, Below w.heap.size w W → W.cell? ⟨b', k * 11 + 7, none⟩ = some (.int .i64 (G k).s.d) := fun W h => later W _ (ht.cell hkn (show 7 < 11 by omega)) h
      have p8 : ∀ W, Below w.heap.size w W → W.cell? ⟨b, k * 11 + 8, none⟩ = some (.int .i64 (G k).k.n) := fun W h => later W _ (hs.cell hkn (show 8 < 11 by omega)) h
      have q8 : ∀ W, Below w.heap.size w W → W.cell? ⟨b', k * 11 + 8, none⟩ = some (.int .i64 (G k).k.n) := fun W h => later W _ (ht.cell hkn (show 8 < 11 by omega)) h
      have p9 : ∀ W, Below w.heap.size w W → W.cell? ⟨b, k * 11 + 9, none⟩ = some (.int .i64 (G k).k.d) := fun W h => later W _ (hs.cell hkn (show 9 < 11 by omega)) h
      have q9 : ∀ W, Below w.heap.size w W → W.cell? ⟨b', k * 11 + 9, none⟩ = some (.int .i64 (G k).k.d) := fun W h => later W _ (ht.cell hkn (show 9 < 11 by omega)) h
      have p10 : ∀ W, Below w.heap.size w W → W.cell? ⟨b, k * 11 + 10, none⟩ = some (.bool (G k).t) := fun W h => later W _ (hs.cell hkn (show 10 < 11 by omega)) h
      have q10 : ∀ W, Below w.heap.size w W → W.cell? ⟨b', k * 11 + 10, none⟩ = some (.bool (G k).t) := fun W h => later W _ (ht.cell hkn (show 10 < 11 by omega)) h
      clear hs ht later
      go_wp2_with fail
      go_region_held (fun W => Below w.heap.size w W) (first | assumption | exact Below.drew ‹_›)
        (first | (go_at_call 65; refine (eqPs_same (G k) _).mono ?_; rintro e w1 ⟨rfl, hb1⟩; have hR1 := box_step ‹_› hb1 (Nat.le_refl _)))
      have HB : Hid (Below w.heap.size w w1) := hR1
      clear hR1 hb1 p0 q0 p1 q1 p2 q2 p3 q3 p4 q4 p5 q5 p6 q6 p7 q7 p8 q8 p9 q9 p10 q10
      go_wp2
      go_roundw
      case rel => exact ⟨k + 1, by omega, by simp, HB.out⟩
      case measure => simp [intOf]; omega
    · obtain rfl : k = n := by omega
      clear hs ht later
      go_wp2
      go_ret
      exact ⟨rfl, hb⟩
end Go.Proofs.Ytjibogknakaokaa
