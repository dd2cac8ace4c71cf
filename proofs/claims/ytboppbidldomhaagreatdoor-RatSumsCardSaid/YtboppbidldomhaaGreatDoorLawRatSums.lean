
/-
  The law RatSums.
-/
import Derived.Test.YtboppbidldomhaaGreatDoorAwake3

import Derived.Test.YtboppbidldomhaaGreatDoorRefF

namespace Go.Proofs.YtboppbidldomhaaGreatDoor

open Go.RowKit

namespace Nt

/-- What stays to the end: all that was there, and rows. -/
def K6 (w : World) (l : List (Option Addr × List Nat)) (W : World) : Prop := Below w.heap.size w W ∧ ∀ p, p ∈ l → Sl W p.1 p.2
theorem K6.next {w W W' : World} {l : List (Option Addr × List Nat)} (k : K6 w l W) (hb : Below W.heap.size W W') : K6 w l W' := ⟨bl_trans k.1 hb, fun p hp => kp' hb (k.2 p hp)⟩
theorem K6.drew {w W : World} {l : List (Option Addr × List Nat)} (k : K6 w l W) : K6 w l W.drew := ⟨k.1.drew, k.2⟩
theorem K6.b {w W : World} {l : List (Option Addr × List Nat)} (k : K6 w l W) : Below w.heap.size w W := k.1
theorem K6.sl {w W : World} {l : List (Option Addr × List Nat)} (k : K6 w l W) {A : Option Addr} {x : List Nat} (h : (A, x) ∈ l) : Sl W A x := k.2 _ h
theorem K6.nil {w W : World} (b : Below w.heap.size w W) : K6 w [] W := ⟨b, fun p hp => by cases hp⟩
theorem K6.cons {w W : World} {l : List (Option Addr × List Nat)} (k : K6 w l W) {A : Option Addr} {x : List Nat} (s : Sl W A x) : K6 w ((A, x) :: l) W := ⟨k.1, fun p hp => by
  rcases List.mem_cons.1 hp with e | e
  · rw [e]; exact s
  · exact k.2 p e⟩
theorem nem1 {T : Type} {p : T} {l : List T} : p ∈ p :: l := .head _
theorem nem2 {T : Type} {p x1 : T} {l : List T} : p ∈ x1 :: p :: l := .tail _ nem1
theorem nem3 {T : Type} {p x1 x2 : T} {l : List T} : p ∈ x1 :: x2 :: p :: l := .tail _ nem2
theorem nem4 {T : Type} {p x1 x2 x3 : T} {l : List T} : p ∈ x1 :: x2 :: x3 :: p :: l := .tail _ nem3
theorem nem5 {T : Type} {p x1 x2 x3 x4 : T} {l : List T} : p ∈ x1 :: x2 :: x3 :: x4 :: p :: l := .tail _ nem4
theorem nem6 {T : Type} {p x1 x2 x3 x4 x5 : T} {l : List T} : p ∈ x1 :: x2 :: x3 :: x4 :: x5 :: p :: l := .tail _ nem5
theorem nem7 {T : Type} {p x1 x2 x3 x4 x5 x6 : T} {l : List T} : p ∈ x1 :: x2 :: x3 :: x4 :: x5 :: x6 :: p :: l := .tail _ nem6
theorem nem8 {T : Type} {p x1 x2 x3 x4 x5 x6 x7 : T} {l : List T} : p ∈ x1 :: x2 :: x3 :: x4 :: x5 :: x6 :: x7 :: p :: l := .tail _ nem7
theorem nem9 {T : Type} {p x1 x2 x3 x4 x5 x6 x7 x8 : T} {l : List T} : p ∈ x1 :: x2 :: x3 :: x4 :: x5 :: x6 :: x7 :: x8 :: p :: l := .tail _ nem8
theorem nem10 {T : Type} {p x1 x2 x3 x4 x5 x6 x7 x8 x9 : T} {l : List T} : p ∈ x1 :: x2 :: x3 :: x4 :: x5 :: x6 :: x7 :: x8 :: x9 :: p :: l := .tail _ nem9
theorem nem11 {T : Type} {p x1 x2 x3 x4 x5 x6 x7 x8 x9 x10 : T} {l : List T} : p ∈ x1 :: x2 :: x3 :: x4 :: x5 :: x6 :: x7 :: x8 :: x9 :: x10 :: p :: l := .tail _ nem10
theorem nem12 {T : Type} {p x1 x2 x3 x4 x5 x6 x7 x8 x9 x10 x11 : T} {l : List T} : p ∈ x1 :: x2 :: x3 :: x4 :: x5 :: x6 :: x7 :: x8 :: x9 :: x10 :: x11 :: p :: l := .tail _ nem11
theorem nem13 {T : Type} {p x1 x2 x3 x4 x5 x6 x7 x8 x9 x10 x11 x12 : T} {l : List T} : p ∈ x1 :: x2 :: x3 :: x4 :: x5 :: x6 :: x7 :: x8 :: x9 :: x10 :: x11 :: x12 :: p :: l := .tail _ nem12
theorem nem14 {T : Type} {p x1 x2 x3 x4 x5 x6 x7 x8 x9 x10 x11 x12 x13 : T} {l : List T} : p ∈ x1 :: x2 :: x3 :: x4 :: x5 :: x6 :: x7 :: x8 :: x9 :: x10 :: x11 :: x12 :: x13 :: p :: l := .tail _ nem13
theorem nem15 {T : Type} {p x1 x2 x3 x4 x5 x6 x7 x8 x9 x10 x11 x12 x13 x14 : T} {l : List T} : p ∈ x1 :: x2 :: x3 :: x4 :: x5 :: x6 :: x7 :: x8 :: x9 :: x10 :: x11 :: x12 :: x13 :: x14 :: p :: l := .tail _ nem14
theorem nem16 {T : Type} {p x1 x2 x3 x4 x5 x6 x7 x8 x9 x10 x11 x12 x13 x14 x15 : T} {l : List T} : p ∈ x1 :: x2 :: x3 :: x4 :: x5 :: x6 :: x7 :: x8 :: x9 :: x10 :: x11 :: x12 :: x13 :: x14 :: x15 :: p :: l := .tail _ nem15
theorem k30 {c1 c2 c3 c4 c5 c6 c7 c8 c9 c10 c11 c12 c13 c14 c15 c16 c17 c18 c19 c20 c21 c22 c23 c24 c25 c26 c27 c28 c29 c30 k : Prop} (h : c1 ∧ c2 ∧ c3 ∧ c4 ∧ c5 ∧ c6 ∧ c7 ∧ c8 ∧ c9 ∧ c10 ∧ c11 ∧ c12 ∧ c13 ∧ c14 ∧ c15 ∧ c16 ∧ c17 ∧ c18 ∧ c19 ∧ c20 ∧ c21 ∧ c22 ∧ c23 ∧ c24 ∧ c25 ∧ c26 ∧ c27 ∧ c28 ∧ c29 ∧ c30 ∧ k) : k := h.2.2.2.2.2.2.2.2.2.2.2.2.2.2.2.2.2.2.2.2.2.2.2.2.2.2.2.2.2.2
theorem S30_next {w w' : World} (hb : Below w.heap.size w w') {p1 p2 p3 p4 p5 p6 p7 p8 p9 p10 p11 p12 p13 p14 p15 p16 p17 p18 p19 p20 p21 p22 p23 p24 p25 p26 p27 p28 p29 p30 : Addr} {v1 v2 v3 v4 v5 v6 v7 v8 v9 v10 v11 v12 v13 v14 v15 v16 v17 v18 v19 v20 v21 v22 v23 v24 v25 v26 v27 v28 v29 v30 : Value} {w0 : World} {l : List (Option Addr × List Nat)}
    (h : w.cell? p1 = some v1 ∧ w.cell? p2 = some v2 ∧ w.cell? p3 = some v3 ∧ w.cell? p4 = some v4 ∧ w.cell? p5 = some v5 ∧ w.cell? p6 = some v6 ∧ w.cell? p7 = some v7 ∧ w.cell? p8 = some v8 ∧ w.cell? p9 = some v9 ∧ w.cell? p10 = some v10 ∧ w.cell? p11 = some v11 ∧ w.cell? p12 = some v12 ∧ w.cell? p13 = some v13 ∧ w.cell? p14 = some v14 ∧ w.cell? p15 = some v15 ∧ w.cell? p16 = some v16 ∧ w.cell? p17 = some v17 ∧ w.cell? p18 = some v18 ∧ w.cell? p19 = some v19 ∧ w.cell? p20 = some v20 ∧ w.cell? p21 = some v21 ∧ w.cell? p22 = some v22 ∧ w.cell? p23 = some v23 ∧ w.cell? p24 = some v24 ∧ w.cell? p25 = some v25 ∧ w.cell? p26 = some v26 ∧ w.cell? p27 = some v27 ∧ w.cell? p28 = some v28 ∧ w.cell? p29 = some v29 ∧ w.cell? p30 = some v30 ∧ K6 w0 l w) : w'.cell? p1 = some v1 ∧ w'.cell? p2 = some v2 ∧ w'.cell? p3 = some v3 ∧ w'.cell? p4 = some v4 ∧ w'.cell? p5 = some v5 ∧ w'.cell? p6 = some v6 ∧ w'.cell? p7 = some v7 ∧ w'.cell? p8 = some v8 ∧ w'.cell? p9 = some v9 ∧ w'.cell? p10 = some v10 ∧ w'.cell? p11 = some v11 ∧ w'.cell? p12 = some v12 ∧ w'.cell? p13 = some v13 ∧ w'.cell? p14 = some v14 ∧ w'.cell? p15 = some v15 ∧ w'.cell? p16 = some v16 ∧ w'.cell? p17 = some v17 ∧ w'.cell? p18 = some v18 ∧ w'.cell? p19 = some v19 ∧ w'.cell? p20 = some v20 ∧ w'.cell? p21 = some v21 ∧ w'.cell? p22 = some v22 ∧ w'.cell? p23 = some v23 ∧ w'.cell? p24 = some v24 ∧ w'.cell? p25 = some v25 ∧ w'.cell? p26 = some v26 ∧ w'.cell? p27 = some v27 ∧ w'.cell? p28 = some v28 ∧ w'.cell? p29 = some v29 ∧ w'.cell? p30 = some v30 ∧ K6 w0 l w' := by
  obtain ⟨h1, h2, h3, h4, h5, h6, h7, h8, h9, h10, h11, h12, h13, h14, h15, h16, h17, h18, h19, h20, h21, h22, h23, h24, h25, h26, h27, h28, h29, h30, k⟩ := h
  exact ⟨cell_next hb h1, cell_next hb h2, cell_next hb h3, cell_next hb h4, cell_next hb h5, cell_next hb h6, cell_next hb h7, cell_next hb h8, cell_next hb h9, cell_next hb h10, cell_next hb h11, cell_next hb h12, cell_next hb h13, cell_next hb h14, cell_next hb h15, cell_next hb h16, cell_next hb h17, cell_next hb h18, cell_next hb h19, cell_next hb h20, cell_next hb h21, cell_next hb h22, cell_next hb h23, cell_next hb h24, cell_next hb h25, cell_next hb h26, cell_next hb h27, cell_next hb h28, cell_next hb h29, cell_next hb h30, k.next hb⟩
theorem je6 (t : TypeId) (x : Int) : binOp .eql t (.int .i64 x) (.int .i64 x) = pure (.bool true) := by
  show pure (Value.bool (x == x)) = _
  rw [beq_self_eq_true]

set_option maxRecDepth 100000 in
set_option maxHeartbeats 16000000 in
theorem rsums_in (s1 s2 : Bool) (A1 B1 A2 B2 : Option Addr) (i1 a1 j1 b1 i2 a2 j2 b2 : Nat) (w : World) (z1 z2 z3 z4 z5 rv : Bool) (N1 D1 N2 D2 N3 D3 N4 D4 N5 D5 : List Nat) (k1 k2 k3 k4 kc ks : Int)
    (l1 : N1.length ≤ 1000) (m1 : D1.length ≤ 1000)
    (l2 : N2.length ≤ 1000) (m2 : D2.length ≤ 1000)
    (l3 : N3.length ≤ 1000) (m3 : D3.length ≤ 1000)
    (l4 : N4.length ≤ 1000) (m4 : D4.length ≤ 1000)
    (l5 : N5.length ≤ 1000) (m5 : D5.length ≤ 1000)
    (FW : Hid (∀ W, Below w.heap.size w W → Calls Tryz.prog 8 #[.agg #[.bool s1, .slice A1 i1 a1, .slice B1 j1 b1], .agg #[.bool s2, .slice A2 i2 a2, .slice B2 j2 b2]] W (fun e w' => e = .returned (.bool true) ∧ Below W.heap.size W w')))
    (AW : Hid (∀ W, Below w.heap.size w W → Calls Tryz.prog 9 #[] W (fun e w' => e = .returned (.bool true) ∧ Below W.heap.size W w')))
    (O1 : Hid (∀ W, Below w.heap.size w W → Calls Tryz.prog 10 #[.agg #[.bool s1, .slice A1 i1 a1, .slice B1 j1 b1], .agg #[.bool s2, .slice A2 i2 a2, .slice B2 j2 b2]] W (ROut W z1 N1 D1 k1)))
    (P1 : Hid (∀ W, Below w.heap.size w W → Calls Tryz.prog 11 #[.agg #[.bool s1, .slice A1 i1 a1, .slice B1 j1 b1], .agg #[.bool s2, .slice A2 i2 a2, .slice B2 j2 b2]] W (ROut W z1 N1 D1 k1)))
    (O2 : Hid (∀ W, Below w.heap.size w W → Calls Tryz.prog 12 #[.agg #[.bool s1, .slice A1 i1 a1, .slice B1 j1 b1], .agg #[.bool s2, .slice A2 i2 a2, .slice B2 j2 b2]] W (ROut W z2 N2 D2 k2)))
    (P2 : Hid (∀ W, Below w.heap.size w W → Calls Tryz.prog 13 #[.agg #[.bool s1, .slice A1 i1 a1, .slice B1 j1 b1], .agg #[.bool s2, .slice A2 i2 a2, .slice B2 j2 b2]] W (ROut W z2 N2 D2 k2)))
    (O3 : Hid (∀ W, Below w.heap.size w W → Calls Tryz.prog 14 #[.agg #[.bool s1, .slice A1 i1 a1, .slice B1 j1 b1], .agg #[.bool s2, .slice A2 i2 a2, .slice B2 j2 b2]] W (ROut W z3 N3 D3 k3)))
    (P3 : Hid (∀ W, Below w.heap.size w W → Calls Tryz.prog 15 #[.agg #[.bool s1, .slice A1 i1 a1, .slice B1 j1 b1], .agg #[.bool s2, .slice A2 i2 a2, .slice B2 j2 b2]] W (ROut W z3 N3 D3 k3)))
    (O4 : Hid (∀ W, Below w.heap.size w W → Calls Tryz.prog 16 #[.agg #[.bool s1, .slice A1 i1 a1, .slice B1 j1 b1], .agg #[.bool s2, .slice A2 i2 a2, .slice B2 j2 b2]] W (ROut W z4 N4 D4 k4)))
    (P4 : Hid (∀ W, Below w.heap.size w W → Calls Tryz.prog 17 #[.agg #[.bool s1, .slice A1 i1 a1, .slice B1 j1 b1], .agg #[.bool s2, .slice A2 i2 a2, .slice B2 j2 b2]] W (ROut W z4 N4 D4 k4)))
    (C1 : Hid (∀ W, Below w.heap.size w W → Calls Tryz.prog 19 #[.agg #[.bool s1, .slice A1 i1 a1, .slice B1 j1 b1], .agg #[.bool s2, .slice A2 i2 a2, .slice B2 j2 b2]] W (fun e w' => e = .returned (.int .i64 kc) ∧ Below W.heap.size W w')))
    (C2 : Hid (∀ W, Below w.heap.size w W → Calls Tryz.prog 20 #[.agg #[.bool s1, .slice A1 i1 a1, .slice B1 j1 b1], .agg #[.bool s2, .slice A2 i2 a2, .slice B2 j2 b2]] W (fun e w' => e = .returned (.int .i64 kc) ∧ Below W.heap.size W w')))
    (G1 : Hid (∀ W, Below w.heap.size w W → Calls Tryz.prog 21 #[.agg #[.bool s1, .slice A1 i1 a1, .slice B1 j1 b1]] W (fun e w' => e = .returned (.int .i64 ks) ∧ Below W.heap.size W w')))
    (G2 : Hid (∀ W, Below w.heap.size w W → Calls Tryz.prog 22 #[.agg #[.bool s1, .slice A1 i1 a1, .slice B1 j1 b1]] W (fun e w' => e = .returned (.int .i64 ks) ∧ Below W.heap.size W w')))
    (E1 : Hid (∀ W, Below w.heap.size w W → Calls Tryz.prog 25 #[.agg #[.bool s1, .slice A1 i1 a1, .slice B1 j1 b1]] W (fun e w' => e = .returned (.bool rv) ∧ Below W.heap.size W w')))
    (E2 : Hid (∀ W, Below w.heap.size w W → Calls Tryz.prog 26 #[.agg #[.bool s1, .slice A1 i1 a1, .slice B1 j1 b1]] W (fun e w' => e = .returned (.bool rv) ∧ Below W.heap.size W w')))
    (M1 : Hid (∀ W, Below w.heap.size w W → Calls Tryz.prog 23 #[.agg #[.bool s1, .slice A1 i1 a1, .slice B1 j1 b1]] W (RVal W z5 N5 D5)))
    (M2 : Hid (∀ W, Below w.heap.size w W → Calls Tryz.prog 24 #[.agg #[.bool s1, .slice A1 i1 a1, .slice B1 j1 b1]] W (RVal W z5 N5 D5))) :
    Calls Tryz.prog 3 #[.agg #[.bool s1, .slice A1 i1 a1, .slice B1 j1 b1], .agg #[.bool s2, .slice A2 i2 a2, .slice B2 j2 b2]] w fun e w' => e = .returned (.bool true) ∧ Below w.heap.size w w' := by
  have SM1 := hide (fun P Q R S e f g h l W (kk : K6 w l W) (q1 : (P, N1) ∈ l) (q2 : (Q, D1) ∈ l) (q3 : (R, N1) ∈ l) (q4 : (S, D1) ∈ l) => same3_any z1 z1 P Q R S e f g h N1.length D1.length N1.length D1.length W true (fun W' k => Same_any z1 z1 P Q R S e f g h _ _ _ _ N1 D1 N1 D1 W' (kp' k (kk.sl q1)) (kp' k (kk.sl q2)) (kp' k (kk.sl q3)) (kp' k (kk.sl q4)) rfl rfl rfl rfl (by omega) (by omega) (by omega) (by omega) true (decide_eq_true ⟨rfl, rfl, rfl⟩)))
  have SM2 := hide (fun P Q R S e f g h l W (kk : K6 w l W) (q1 : (P, N2) ∈ l) (q2 : (Q, D2) ∈ l) (q3 : (R, N2) ∈ l) (q4 : (S, D2) ∈ l) => same3_any z2 z2 P Q R S e f g h N2.length D2.length N2.length D2.length W true (fun W' k => Same_any z2 z2 P Q R S e f g h _ _ _ _ N2 D2 N2 D2 W' (kp' k (kk.sl q1)) (kp' k (kk.sl q2)) (kp' k (kk.sl q3)) (kp' k (kk.sl q4)) rfl rfl rfl rfl (by omega) (by omega) (by omega) (by omega) true (decide_eq_true ⟨rfl, rfl, rfl⟩)))
  have SM3 := hide (fun P Q R S e f g h l W (kk : K6 w l W) (q1 : (P, N3) ∈ l) (q2 : (Q, D3) ∈ l) (q3 : (R, N3) ∈ l) (q4 : (S, D3) ∈ l) => same3_any z3 z3 P Q R S e f g h N3.length D3.length N3.length D3.length W true (fun W' k => Same_any z3 z3 P Q R S e f g h _ _ _ _ N3 D3 N3 D3 W' (kp' k (kk.sl q1)) (kp' k (kk.sl q2)) (kp' k (kk.sl q3)) (kp' k (kk.sl q4)) rfl rfl rfl rfl (by omega) (by omega) (by omega) (by omega) true (decide_eq_true ⟨rfl, rfl, rfl⟩)))
  have SM4 := hide (fun P Q R S e f g h l W (kk : K6 w l W) (q1 : (P, N4) ∈ l) (q2 : (Q, D4) ∈ l) (q3 : (R, N4) ∈ l) (q4 : (S, D4) ∈ l) => same3_any z4 z4 P Q R S e f g h N4.length D4.length N4.length D4.length W true (fun W' k => Same_any z4 z4 P Q R S e f g h _ _ _ _ N4 D4 N4 D4 W' (kp' k (kk.sl q1)) (kp' k (kk.sl q2)) (kp' k (kk.sl q3)) (kp' k (kk.sl q4)) rfl rfl rfl rfl (by omega) (by omega) (by omega) (by omega) true (decide_eq_true ⟨rfl, rfl, rfl⟩)))
  have SN := hide (fun P Q R S e f g h W (_ : Below w.heap.size w W) s1 s2 s3 s4 => same3_any z5 z5 P Q R S e f g h N5.length D5.length N5.length D5.length W true (fun W' k => Same_any z5 z5 P Q R S e f g h _ _ _ _ N5 D5 N5 D5 W' (kp' k s1) (kp' k s2) (kp' k s3) (kp' k s4) rfl rfl rfl rfl (by omega) (by omega) (by omega) (by omega) true (decide_eq_true ⟨rfl, rfl, rfl⟩)))
  have q1 := je6 3 k1
  have q2 := je6 3 k2
  have q3 := je6 3 k3
  have q4 := je6 3 k4
  have q5 := je6 3 kc
  have q6 := je6 3 ks
  have q7 : ∀ W : World, (binOp .eql 4 (.bool rv) (.bool rv)).run Tryz.prog W = .ok (.bool true) W := fun _ => by cases rv <;> kernel_rfl
  have O1 : Hid (∀ W, Below w.heap.size w W → Calls Tryz.prog 10 #[.agg #[.bool s1, .slice A1 i1 a1, .slice B1 j1 b1], .agg #[.bool s2, .slice A2 i2 a2, .slice B2 j2 b2]] W (fun e w' => ∃ A c B d, e = .returned (.tuple #[.agg #[.bool z1, .slice A N1.length c, .slice B D1.length d], .int .i64 k1]) ∧ Sl w' A N1 ∧ Sl w' B D1 ∧ Below W.heap.size W w')) := O1
  have P1 : Hid (∀ W, Below w.heap.size w W → Calls Tryz.prog 11 #[.agg #[.bool s1, .slice A1 i1 a1, .slice B1 j1 b1], .agg #[.bool s2, .slice A2 i2 a2, .slice B2 j2 b2]] W (fun e w' => ∃ A c B d, e = .returned (.tuple #[.agg #[.bool z1, .slice A N1.length c, .slice B D1.length d], .int .i64 k1]) ∧ Sl w' A N1 ∧ Sl w' B D1 ∧ Below W.heap.size W w')) := P1
  have O2 : Hid (∀ W, Below w.heap.size w W → Calls Tryz.prog 12 #[.agg #[.bool s1, .slice A1 i1 a1, .slice B1 j1 b1], .agg #[.bool s2, .slice A2 i2 a2, .slice B2 j2 b2]] W (fun e w' => ∃ A c B d, e = .returned (.tuple #[.agg #[.bool z2, .slice A N2.length c, .slice B D2.length d], .int .i64 k2]) ∧ Sl w' A N2 ∧ Sl w' B D2 ∧ Below W.heap.size W w')) := O2
  have P2 : Hid (∀ W, Below w.heap.size w W → Calls Tryz.prog 13 #[.agg #[.bool s1, .slice A1 i1 a1, .slice B1 j1 b1], .agg #[.bool s2, .slice A2 i2 a2, .slice B2 j2 b2]] W (fun e w' => ∃ A c B d, e = .returned (.tuple #[.agg #[.bool z2, .slice A N2.length c, .slice B D2.length d], .int .i64 k2]) ∧ Sl w' A N2 ∧ Sl w' B D2 ∧ Below W.heap.size W w')) := P2
  have O3 : Hid (∀ W, Below w.heap.size w W → Calls Tryz.prog 14 #[.agg #[.bool s1, .slice A1 i1 a1, .slice B1 j1 b1], .agg #[.bool s2, .slice A2 i2 a2, .slice B2 j2 b2]] W (fun e w' => ∃ A c B d, e = .returned (.tuple #[.agg #[.bool z3, .slice A N3.length c, .slice B D3.length d], .int .i64 k3]) ∧ Sl w' A N3 ∧ Sl w' B D3 ∧ Below W.heap.size W w')) := O3
  have P3 : Hid (∀ W, Below w.heap.size w W → Calls Tryz.prog 15 #[.agg #[.bool s1, .slice A1 i1 a1, .slice B1 j1 b1], .agg #[.bool s2, .slice A2 i2 a2, .slice B2 j2 b2]] W (fun e w' => ∃ A c B d, e = .returned (.tuple #[.agg #[.bool z3, .slice A N3.length c, .slice B D3.length d], .int .i64 k3]) ∧ Sl w' A N3 ∧ Sl w' B D3 ∧ Below W.heap.size W w')) := P3
  have O4 : Hid (∀ W, Below w.heap.size w W → Calls Tryz.prog 16 #[.agg #[.bool s1, .slice A1 i1 a1, .slice B1 j1 b1], .agg #[.bool s2, .slice A2 i2 a2, .slice B2 j2 b2]] W (fun e w' => ∃ A c B d, e = .returned (.tuple #[.agg #[.bool z4, .slice A N4.length c, .slice B D4.length d], .int .i64 k4]) ∧ Sl w' A N4 ∧ Sl w' B D4 ∧ Below W.heap.size W w')) := O4
  have P4 : Hid (∀ W, Below w.heap.size w W → Calls Tryz.prog 17 #[.agg #[.bool s1, .slice A1 i1 a1, .slice B1 j1 b1], .agg #[.bool s2, .slice A2 i2 a2, .slice B2 j2 b2]] W (fun e w' => ∃ A c B d, e = .returned (.tuple #[.agg #[.bool z4, .slice A N4.length c, .slice B D4.length d], .int .i64 k4]) ∧ Sl w' A N4 ∧ Sl w' B D4 ∧ Below W.heap.size W w')) := P4
  have M1 : Hid (∀ W, Below w.heap.size w W → Calls Tryz.prog 23 #[.agg #[.bool s1, .slice A1 i1 a1, .slice B1 j1 b1]] W (fun e w' => ∃ A c B d, e = .returned (.agg #[.bool z5, .slice A N5.length c, .slice B D5.length d]) ∧ Sl w' A N5 ∧ Sl w' B D5 ∧ Below W.heap.size W w')) := M1
  have M2 : Hid (∀ W, Below w.heap.size w W → Calls Tryz.prog 24 #[.agg #[.bool s1, .slice A1 i1 a1, .slice B1 j1 b1]] W (fun e w' => ∃ A c B d, e = .returned (.agg #[.bool z5, .slice A N5.length c, .slice B D5.length d]) ∧ Sl w' A N5 ∧ Sl w' B D5 ∧ Below W.heap.size W w')) := M2
  clear l1 m1 l2 m2 l3 m3 l4 m4 l5 m5
  generalize N1.length = x1 at *
  generalize D1.length = y1 at *
  generalize N2.length = x2 at *
  generalize D2.length = y2 at *
  generalize N3.length = x3 at *
  generalize D3.length = y3 at *
  generalize N4.length = x4 at *
  generalize D4.length = y4 at *
  generalize N5.length = x5 at *
  generalize D5.length = y5 at *
  have Xa := hide ((Q3.new (.bool s1) (.slice A1 i1 a1) (.slice B1 j1 b1) w ).al (.cells #[.bool s2, .slice A2 i2 a2, .slice B2 j2 b2] 24))
  have Xb := hide (Q3.new1 (.bool s2) (.slice A2 i2 a2) (.slice B2 j2 b2) w (.cells #[.bool s1, .slice A1 i1 a1, .slice B1 j1 b1] 24))
  have e0 : Below w.heap.size w ((w.alloc (.cells #[.bool s1, .slice A1 i1 a1, .slice B1 j1 b1] 24)).alloc (.cells #[.bool s2, .slice A2 i2 a2, .slice B2 j2 b2] 24)) := (bl_al (bl_al (.refl _ _) _) _)
  go_enter Tryz.func3, Tryz.ntmps3
  go_wp2_with (first
    | (go_at_call 8; (with_reducible refine (FW.out _ e0).mono ?_); rintro e w1 ⟨rfl, hb⟩; have g := hb; have Xa := hide (Xa.out.next g); have Xb := hide (Xb.out.next g); have b1 := bl_trans e0 g; obtain ⟨xac1, xac2, xac3, xac4, xac5, xac6⟩ := Xa.out; obtain ⟨xbc1, xbc2, xbc3, xbc4, xbc5, xbc6⟩ := Xb.out; clear hb g)
    | (go_at_call 10; (with_reducible refine (O1.out _ b1).mono ?_); rintro e w2 ⟨A2q, c2q, B2q, d2q, rfl, s2q, t2q, hb⟩; have g := hb; have Xa := hide (Xa.out.next g); have Xb := hide (Xb.out.next g); have b2 := bl_trans b1 g; (try clear xac1 xac2 xac3 xac4 xac5 xac6); (try clear xbc1 xbc2 xbc3 xbc4 xbc5 xbc6); obtain ⟨xac1, xac2, xac3, xac4, xac5, xac6⟩ := Xa.out; obtain ⟨xbc1, xbc2, xbc3, xbc4, xbc5, xbc6⟩ := Xb.out; have xad1 := fun X => (Xa.out.al X).1; have xad2 := fun X => (Xa.out.al X).2.1; have xad3 := fun X => (Xa.out.al X).2.2.1; have xbd1 := fun X => (Xb.out.al X).1; have xbd2 := fun X => (Xb.out.al X).2.1; have xbd3 := fun X => (Xb.out.al X).2.2.1; clear hb g)
    | (go_at_call 11; (with_reducible refine (P1.out _ (bl_al b2 _)).mono ?_); rintro e w3 ⟨A3q, c3q, B3q, d3q, rfl, s3q, t3q, hb⟩; have g := (bl_one hb); have Y2 := hide ((Q3.new (.bool z1) (.slice A2q x1 c2q) (.slice B2q y1 d2q) w2).next hb); have s2q := kp' g s2q; have t2q := kp' g t2q; have Xa := hide (Xa.out.next g); have Xb := hide (Xb.out.next g); have b3 := bl_trans b2 g; clear xad1 xad2 xad3 xbd1 xbd2 xbd3; (try clear xac1 xac2 xac3 xac4 xac5 xac6); (try clear xbc1 xbc2 xbc3 xbc4 xbc5 xbc6); obtain ⟨xac1, xac2, xac3, xac4, xac5, xac6⟩ := Xa.out; obtain ⟨xbc1, xbc2, xbc3, xbc4, xbc5, xbc6⟩ := Xb.out; have xad1 := fun X => (Xa.out.al X).1; have xad2 := fun X => (Xa.out.al X).2.1; have xad3 := fun X => (Xa.out.al X).2.2.1; have xbd1 := fun X => (Xb.out.al X).1; have xbd2 := fun X => (Xb.out.al X).2.1; have xbd3 := fun X => (Xb.out.al X).2.2.1; clear hb g)
    | (go_at_call 12; (with_reducible refine (O2.out _ (bl_al b3 _)).mono ?_); rintro e w4 ⟨A4q, c4q, B4q, d4q, rfl, s4q, t4q, hb⟩; have g := (bl_one hb); have Y3 := hide ((Q3.new (.bool z1) (.slice A3q x1 c3q) (.slice B3q y1 d3q) w3).next hb); have s2q := kp' g s2q; have t2q := kp' g t2q; have s3q := kp' g s3q; have t3q := kp' g t3q; have Xa := hide (Xa.out.next g); have Xb := hide (Xb.out.next g); have Y2 := hide (Y2.out.next g); have b4 := bl_trans b3 g; clear xad1 xad2 xad3 xbd1 xbd2 xbd3; (try clear xac1 xac2 xac3 xac4 xac5 xac6); (try clear xbc1 xbc2 xbc3 xbc4 xbc5 xbc6); obtain ⟨xac1, xac2, xac3, xac4, xac5, xac6⟩ := Xa.out; obtain ⟨xbc1, xbc2, xbc3, xbc4, xbc5, xbc6⟩ := Xb.out; have xad1 := fun X => (Xa.out.al X).1; have xad2 := fun X => (Xa.out.al X).2.1; have xad3 := fun X => (Xa.out.al X).2.2.1; have xbd1 := fun X => (Xb.out.al X).1; have xbd2 := fun X => (Xb.out.al X).2.1; have xbd3 := fun X => (Xb.out.al X).2.2.1; clear hb g)
    | (go_at_call 13; (with_reducible refine (P2.out _ (bl_al b4 _)).mono ?_); rintro e w5 ⟨A5q, c5q, B5q, d5q, rfl, s5q, t5q, hb⟩; have g := (bl_one hb); have Y4 := hide ((Q3.new (.bool z2) (.slice A4q x2 c4q) (.slice B4q y2 d4q) w4).next hb); have s2q := kp' g s2q; have t2q := kp' g t2q; have s3q := kp' g s3q; have t3q := kp' g t3q; have s4q := kp' g s4q; have t4q := kp' g t4q; have Xa := hide (Xa.out.next g); have Xb := hide (Xb.out.next g); have Y2 := hide (Y2.out.next g); have Y3 := hide (Y3.out.next g); have b5 := bl_trans b4 g; clear xad1 xad2 xad3 xbd1 xbd2 xbd3; (try clear xac1 xac2 xac3 xac4 xac5 xac6); (try clear xbc1 xbc2 xbc3 xbc4 xbc5 xbc6); obtain ⟨xac1, xac2, xac3, xac4, xac5, xac6⟩ := Xa.out; obtain ⟨xbc1, xbc2, xbc3, xbc4, xbc5, xbc6⟩ := Xb.out; have xad1 := fun X => (Xa.out.al X).1; have xad2 := fun X => (Xa.out.al X).2.1; have xad3 := fun X => (Xa.out.al X).2.2.1; have xbd1 := fun X => (Xb.out.al X).1; have xbd2 := fun X => (Xb.out.al X).2.1; have xbd3 := fun X => (Xb.out.al X).2.2.1; clear hb g)
    | (go_at_call 14; (with_reducible refine (O3.out _ (bl_al b5 _)).mono ?_); rintro e w6 ⟨A6q, c6q, B6q, d6q, rfl, s6q, t6q, hb⟩; have g := (bl_one hb); have Y5 := hide ((Q3.new (.bool z2) (.slice A5q x2 c5q) (.slice B5q y2 d5q) w5).next hb); have s2q := kp' g s2q; have t2q := kp' g t2q; have s3q := kp' g s3q; have t3q := kp' g t3q; have s4q := kp' g s4q; have t4q := kp' g t4q; have s5q := kp' g s5q; have t5q := kp' g t5q; have Xa := hide (Xa.out.next g); have Xb := hide (Xb.out.next g); have Y2 := hide (Y2.out.next g); have Y3 := hide (Y3.out.next g); have Y4 := hide (Y4.out.next g); have b6 := bl_trans b5 g; clear xad1 xad2 xad3 xbd1 xbd2 xbd3; (try clear xac1 xac2 xac3 xac4 xac5 xac6); (try clear xbc1 xbc2 xbc3 xbc4 xbc5 xbc6); obtain ⟨xac1, xac2, xac3, xac4, xac5, xac6⟩ := Xa.out; obtain ⟨xbc1, xbc2, xbc3, xbc4, xbc5, xbc6⟩ := Xb.out; have xad1 := fun X => (Xa.out.al X).1; have xad2 := fun X => (Xa.out.al X).2.1; have xad3 := fun X => (Xa.out.al X).2.2.1; have xbd1 := fun X => (Xb.out.al X).1; have xbd2 := fun X => (Xb.out.al X).2.1; have xbd3 := fun X => (Xb.out.al X).2.2.1; clear hb g)
    | (go_at_call 15; (with_reducible refine (P3.out _ (bl_al b6 _)).mono ?_); rintro e w7 ⟨A7q, c7q, B7q, d7q, rfl, s7q, t7q, hb⟩; have g := (bl_one hb); have Y6 := hide ((Q3.new (.bool z3) (.slice A6q x3 c6q) (.slice B6q y3 d6q) w6).next hb); have s2q := kp' g s2q; have t2q := kp' g t2q; have s3q := kp' g s3q; have t3q := kp' g t3q; have s4q := kp' g s4q; have t4q := kp' g t4q; have s5q := kp' g s5q; have t5q := kp' g t5q; have s6q := kp' g s6q; have t6q := kp' g t6q; have Xa := hide (Xa.out.next g); have Xb := hide (Xb.out.next g); have Y2 := hide (Y2.out.next g); have Y3 := hide (Y3.out.next g); have Y4 := hide (Y4.out.next g); have Y5 := hide (Y5.out.next g); have b7 := bl_trans b6 g; clear xad1 xad2 xad3 xbd1 xbd2 xbd3; (try clear xac1 xac2 xac3 xac4 xac5 xac6); (try clear xbc1 xbc2 xbc3 xbc4 xbc5 xbc6); obtain ⟨xac1, xac2, xac3, xac4, xac5, xac6⟩ := Xa.out; obtain ⟨xbc1, xbc2, xbc3, xbc4, xbc5, xbc6⟩ := Xb.out; have xad1 := fun X => (Xa.out.al X).1; have xad2 := fun X => (Xa.out.al X).2.1; have xad3 := fun X => (Xa.out.al X).2.2.1; have xbd1 := fun X => (Xb.out.al X).1; have xbd2 := fun X => (Xb.out.al X).2.1; have xbd3 := fun X => (Xb.out.al X).2.2.1; clear hb g)
    | (go_at_call 16; (with_reducible refine (O4.out _ (bl_al b7 _)).mono ?_); rintro e w8 ⟨A8q, c8q, B8q, d8q, rfl, s8q, t8q, hb⟩; have g := (bl_one hb); have Y7 := hide ((Q3.new (.bool z3) (.slice A7q x3 c7q) (.slice B7q y3 d7q) w7).next hb); have s2q := kp' g s2q; have t2q := kp' g t2q; have s3q := kp' g s3q; have t3q := kp' g t3q; have s4q := kp' g s4q; have t4q := kp' g t4q; have s5q := kp' g s5q; have t5q := kp' g t5q; have s6q := kp' g s6q; have t6q := kp' g t6q; have s7q := kp' g s7q; have t7q := kp' g t7q; have Xa := hide (Xa.out.next g); have Xb := hide (Xb.out.next g); have Y2 := hide (Y2.out.next g); have Y3 := hide (Y3.out.next g); have Y4 := hide (Y4.out.next g); have Y5 := hide (Y5.out.next g); have Y6 := hide (Y6.out.next g); have b8 := bl_trans b7 g; clear xad1 xad2 xad3 xbd1 xbd2 xbd3; (try clear xac1 xac2 xac3 xac4 xac5 xac6); (try clear xbc1 xbc2 xbc3 xbc4 xbc5 xbc6); obtain ⟨xac1, xac2, xac3, xac4, xac5, xac6⟩ := Xa.out; obtain ⟨xbc1, xbc2, xbc3, xbc4, xbc5, xbc6⟩ := Xb.out; have xad1 := fun X => (Xa.out.al X).1; have xad2 := fun X => (Xa.out.al X).2.1; have xad3 := fun X => (Xa.out.al X).2.2.1; have xbd1 := fun X => (Xb.out.al X).1; have xbd2 := fun X => (Xb.out.al X).2.1; have xbd3 := fun X => (Xb.out.al X).2.2.1; clear hb g)
    | (go_at_call 17; (with_reducible refine (P4.out _ (bl_al b8 _)).mono ?_); rintro e w9 ⟨A9q, c9q, B9q, d9q, rfl, s9q, t9q, hb⟩; have g := (bl_one hb); have Y8 := hide ((Q3.new (.bool z4) (.slice A8q x4 c8q) (.slice B8q y4 d8q) w8).next hb); have s2q := kp' g s2q; have t2q := kp' g t2q; have s3q := kp' g s3q; have t3q := kp' g t3q; have s4q := kp' g s4q; have t4q := kp' g t4q; have s5q := kp' g s5q; have t5q := kp' g t5q; have s6q := kp' g s6q; have t6q := kp' g t6q; have s7q := kp' g s7q; have t7q := kp' g t7q; have s8q := kp' g s8q; have t8q := kp' g t8q; have Xa := hide (Xa.out.next g); have Xb := hide (Xb.out.next g); have Y2 := hide (Y2.out.next g); have Y3 := hide (Y3.out.next g); have Y4 := hide (Y4.out.next g); have Y5 := hide (Y5.out.next g); have Y6 := hide (Y6.out.next g); have Y7 := hide (Y7.out.next g); have b9 := bl_trans b8 g; clear xad1 xad2 xad3 xbd1 xbd2 xbd3; (try clear xac1 xac2 xac3 xac4 xac5 xac6); (try clear xbc1 xbc2 xbc3 xbc4 xbc5 xbc6); obtain ⟨xac1, xac2, xac3, xac4, xac5, xac6⟩ := Xa.out; obtain ⟨xbc1, xbc2, xbc3, xbc4, xbc5, xbc6⟩ := Xb.out; clear hb g))
  have kz : Hid (K6 w [(A2q, N1), (B2q, D1), (A3q, N1), (B3q, D1), (A4q, N2), (B4q, D2), (A5q, N2), (B5q, D2), (A6q, N3), (B6q, D3), (A7q, N3), (B7q, D3), (A8q, N4), (B8q, D4), (A9q, N4), (B9q, D4)] (w9.alloc (.cells #[.bool z4, .slice A9q x4 c9q, .slice B9q y4 d9q] 24))) := hide (K6.cons (K6.cons (K6.cons (K6.cons (K6.cons (K6.cons (K6.cons (K6.cons (K6.cons (K6.cons (K6.cons (K6.cons (K6.cons (K6.cons (K6.cons (K6.cons (K6.nil (bl_al b9 (.cells #[.bool z4, .slice A9q x4 c9q, .slice B9q y4 d9q] 24))) (t9q.alloc (.cells #[.bool z4, .slice A9q x4 c9q, .slice B9q y4 d9q] 24))) (s9q.alloc (.cells #[.bool z4, .slice A9q x4 c9q, .slice B9q y4 d9q] 24))) (t8q.alloc (.cells #[.bool z4, .slice A9q x4 c9q, .slice B9q y4 d9q] 24))) (s8q.alloc (.cells #[.bool z4, .slice A9q x4 c9q, .slice B9q y4 d9q] 24))) (t7q.alloc (.cells #[.bool z4, .slice A9q x4 c9q, .slice B9q y4 d9q] 24))) (s7q.alloc (.cells #[.bool z4, .slice A9q x4 c9q, .slice B9q y4 d9q] 24))) (t6q.alloc (.cells #[.bool z4, .slice A9q x4 c9q, .slice B9q y4 d9q] 24))) (s6q.alloc (.cells #[.bool z4, .slice A9q x4 c9q, .slice B9q y4 d9q] 24))) (t5q.alloc (.cells #[.bool z4, .slice A9q x4 c9q, .slice B9q y4 d9q] 24))) (s5q.alloc (.cells #[.bool z4, .slice A9q x4 c9q, .slice B9q y4 d9q] 24))) (t4q.alloc (.cells #[.bool z4, .slice A9q x4 c9q, .slice B9q y4 d9q] 24))) (s4q.alloc (.cells #[.bool z4, .slice A9q x4 c9q, .slice B9q y4 d9q] 24))) (t3q.alloc (.cells #[.bool z4, .slice A9q x4 c9q, .slice B9q y4 d9q] 24))) (s3q.alloc (.cells #[.bool z4, .slice A9q x4 c9q, .slice B9q y4 d9q] 24))) (t2q.alloc (.cells #[.bool z4, .slice A9q x4 c9q, .slice B9q y4 d9q] 24))) (s2q.alloc (.cells #[.bool z4, .slice A9q x4 c9q, .slice B9q y4 d9q] 24)))
  have kd := hide kz.out.drew
  have Y2 := hide (Y2.out.al (.cells #[.bool z4, .slice A9q x4 c9q, .slice B9q y4 d9q] 24))
  have Y3 := hide (Y3.out.al (.cells #[.bool z4, .slice A9q x4 c9q, .slice B9q y4 d9q] 24))
  have Y4 := hide (Y4.out.al (.cells #[.bool z4, .slice A9q x4 c9q, .slice B9q y4 d9q] 24))
  have Y5 := hide (Y5.out.al (.cells #[.bool z4, .slice A9q x4 c9q, .slice B9q y4 d9q] 24))
  have Y6 := hide (Y6.out.al (.cells #[.bool z4, .slice A9q x4 c9q, .slice B9q y4 d9q] 24))
  have Y7 := hide (Y7.out.al (.cells #[.bool z4, .slice A9q x4 c9q, .slice B9q y4 d9q] 24))
  have Y8 := hide (Y8.out.al (.cells #[.bool z4, .slice A9q x4 c9q, .slice B9q y4 d9q] 24))
  have Xa := hide (Xa.out.al (.cells #[.bool z4, .slice A9q x4 c9q, .slice B9q y4 d9q] 24))
  have Xb := hide (Xb.out.al (.cells #[.bool z4, .slice A9q x4 c9q, .slice B9q y4 d9q] 24))
  have Y9 := hide (Q3.new (.bool z4) (.slice A9q x4 c9q) (.slice B9q y4 d9q) w9)
  clear s2q t2q b2 s3q t3q b3 s4q t4q b4 s5q t5q b5 s6q t6q b6 s7q t7q b7 s8q t8q b8 s9q t9q b9 b1
  (try clear xac1 xac2 xac3 xac4 xac5 xac6 xbc1 xbc2 xbc3 xbc4 xbc5 xbc6)
  (try dsimp only [List.append])
  go_region_held3 (fun W => W.cell? ⟨w2.heap.size, 0, none⟩ = some (.bool z1) ∧ W.cell? ⟨w2.heap.size, 1, none⟩ = some (.slice A2q x1 c2q) ∧ W.cell? ⟨w2.heap.size, 2, none⟩ = some (.slice B2q y1 d2q) ∧ W.cell? ⟨w3.heap.size, 0, none⟩ = some (.bool z1) ∧ W.cell? ⟨w3.heap.size, 1, none⟩ = some (.slice A3q x1 c3q) ∧ W.cell? ⟨w3.heap.size, 2, none⟩ = some (.slice B3q y1 d3q) ∧ W.cell? ⟨w4.heap.size, 0, none⟩ = some (.bool z2) ∧ W.cell? ⟨w4.heap.size, 1, none⟩ = some (.slice A4q x2 c4q) ∧ W.cell? ⟨w4.heap.size, 2, none⟩ = some (.slice B4q y2 d4q) ∧ W.cell? ⟨w5.heap.size, 0, none⟩ = some (.bool z2) ∧ W.cell? ⟨w5.heap.size, 1, none⟩ = some (.slice A5q x2 c5q) ∧ W.cell? ⟨w5.heap.size, 2, none⟩ = some (.slice B5q y2 d5q) ∧ W.cell? ⟨w6.heap.size, 0, none⟩ = some (.bool z3) ∧ W.cell? ⟨w6.heap.size, 1, none⟩ = some (.slice A6q x3 c6q) ∧ W.cell? ⟨w6.heap.size, 2, none⟩ = some (.slice B6q y3 d6q) ∧ W.cell? ⟨w7.heap.size, 0, none⟩ = some (.bool z3) ∧ W.cell? ⟨w7.heap.size, 1, none⟩ = some (.slice A7q x3 c7q) ∧ W.cell? ⟨w7.heap.size, 2, none⟩ = some (.slice B7q y3 d7q) ∧ W.cell? ⟨w8.heap.size, 0, none⟩ = some (.bool z4) ∧ W.cell? ⟨w8.heap.size, 1, none⟩ = some (.slice A8q x4 c8q) ∧ W.cell? ⟨w8.heap.size, 2, none⟩ = some (.slice B8q y4 d8q) ∧ W.cell? ⟨w9.heap.size, 0, none⟩ = some (.bool z4) ∧ W.cell? ⟨w9.heap.size, 1, none⟩ = some (.slice A9q x4 c9q) ∧ W.cell? ⟨w9.heap.size, 2, none⟩ = some (.slice B9q y4 d9q) ∧ W.cell? ⟨w.heap.size, 0, none⟩ = some (.bool s1) ∧ W.cell? ⟨w.heap.size, 1, none⟩ = some (.slice A1 i1 a1) ∧ W.cell? ⟨w.heap.size, 2, none⟩ = some (.slice B1 j1 b1) ∧ W.cell? ⟨w.heap.size + 1, 0, none⟩ = some (.bool s2) ∧ W.cell? ⟨w.heap.size + 1, 1, none⟩ = some (.slice A2 i2 a2) ∧ W.cell? ⟨w.heap.size + 1, 2, none⟩ = some (.slice B2 j2 b2) ∧ K6 w [(A2q, N1), (B2q, D1), (A3q, N1), (B3q, D1), (A4q, N2), (B4q, D2), (A5q, N2), (B5q, D2), (A6q, N3), (B6q, D3), (A7q, N3), (B7q, D3), (A8q, N4), (B8q, D4), (A9q, N4), (B9q, D4)] W)
    (first | exact ⟨Y2.out.1, Y2.out.2.1, Y2.out.2.2.1, Y3.out.1, Y3.out.2.1, Y3.out.2.2.1, Y4.out.1, Y4.out.2.1, Y4.out.2.2.1, Y5.out.1, Y5.out.2.1, Y5.out.2.2.1, Y6.out.1, Y6.out.2.1, Y6.out.2.2.1, Y7.out.1, Y7.out.2.1, Y7.out.2.2.1, Y8.out.1, Y8.out.2.1, Y8.out.2.2.1, Y9.out.1, Y9.out.2.1, Y9.out.2.2.1, Xa.out.1, Xa.out.2.1, Xa.out.2.2.1, Xb.out.1, Xb.out.2.1, Xb.out.2.2.1, kz.out⟩ | exact ⟨Y2.out.1, Y2.out.2.1, Y2.out.2.2.1, Y3.out.1, Y3.out.2.1, Y3.out.2.2.1, Y4.out.1, Y4.out.2.1, Y4.out.2.2.1, Y5.out.1, Y5.out.2.1, Y5.out.2.2.1, Y6.out.1, Y6.out.2.1, Y6.out.2.2.1, Y7.out.1, Y7.out.2.1, Y7.out.2.2.1, Y8.out.1, Y8.out.2.1, Y8.out.2.2.1, Y9.out.1, Y9.out.2.1, Y9.out.2.2.1, Xa.out.1, Xa.out.2.1, Xa.out.2.2.1, Xb.out.1, Xb.out.2.1, Xb.out.2.2.1, kd.out⟩ | with_reducible exact S30_next hb (by assumption) | with_reducible assumption)
    (first
      | (go_at_call 18; (with_reducible refine (SM1.out A2q B2q A3q B3q c2q d2q c3q d3q _ _ (k30 (by assumption)) nem1 nem2 nem3 nem4).mono ?_); rintro e v1 ⟨rfl, hb⟩)
      | (go_at_call 18; (with_reducible refine (SM2.out A4q B4q A5q B5q c4q d4q c5q d5q _ _ (k30 (by assumption)) nem5 nem6 nem7 nem8).mono ?_); rintro e v2 ⟨rfl, hb⟩)
      | (go_at_call 18; (with_reducible refine (SM3.out A6q B6q A7q B7q c6q d6q c7q d7q _ _ (k30 (by assumption)) nem9 nem10 nem11 nem12).mono ?_); rintro e v3 ⟨rfl, hb⟩)
      | (go_at_call 18; (with_reducible refine (SM4.out A8q B8q A9q B9q c8q d8q c9q d9q _ _ (k30 (by assumption)) nem13 nem14 nem15 nem16).mono ?_); rintro e v4 ⟨rfl, hb⟩)
      | (go_at_call 19; (with_reducible refine (C1.out _ (K6.b (k30 (by assumption)))).mono ?_); rintro e v5 ⟨rfl, hb⟩)
      | (go_at_call 20; (with_reducible refine (C2.out _ (K6.b (k30 (by assumption)))).mono ?_); rintro e v6 ⟨rfl, hb⟩)
      | (go_at_call 21; (with_reducible refine (G1.out _ (K6.b (k30 (by assumption)))).mono ?_); rintro e v7 ⟨rfl, hb⟩)
      | (go_at_call 22; (with_reducible refine (G2.out _ (K6.b (k30 (by assumption)))).mono ?_); rintro e v8 ⟨rfl, hb⟩)
      | (go_at_call 23; (with_reducible refine (M1.out _ (K6.b (k30 (by assumption)))).mono ?_); rintro e v9 ⟨P1, p1, P2, p2, rfl, r1, r2, hb⟩; (try have r3 := kp' hb r3; have r4 := kp' hb r4))
      | (go_at_call 24; (with_reducible refine (M2.out _ (K6.b (k30 (by assumption)))).mono ?_); rintro e v10 ⟨P3, p3, P4, p4, rfl, r3, r4, hb⟩; (try have r1 := kp' hb r1; have r2 := kp' hb r2))
      | (go_at_call 18; (with_reducible refine (SN.out P1 P2 P3 P4 p1 p2 p3 p4 _ (K6.b (k30 (by assumption))) r1 r2 r3 r4).mono ?_); rintro e v11 ⟨rfl, hb⟩)
      | (go_at_call 25; (with_reducible refine (E1.out _ (K6.b (k30 (by assumption)))).mono ?_); rintro e v12 ⟨rfl, hb⟩)
      | (go_at_call 26; (with_reducible refine (E2.out _ (K6.b (k30 (by assumption)))).mono ?_); rintro e v13 ⟨rfl, hb⟩)
      | (go_at_call 9; (with_reducible refine (AW.out _ (K6.b (k30 (by assumption)))).mono ?_); rintro e v14 ⟨rfl, hb⟩))
  all_goals
    go_wp2
    go_ret
    exact ⟨rfl, K6.b (k30 (by assumption))⟩

set_option maxRecDepth 100000 in
set_option maxHeartbeats 8000000 in
theorem rsums_law (s1 : Bool) (A1 B1 : Option Addr) (a1 b1 : Nat) (xs1 ys1 : List Nat) (s2 : Bool) (A2 B2 : Option Addr) (a2 b2 : Nat) (xs2 ys2 : List Nat) (w : World) (sA1 : Sl w A1 xs1) (sB1 : Sl w B1 ys1) (sA2 : Sl w A2 xs2) (sB2 : Sl w B2 ys2) (lx1 : Limbs xs1) (ly1 : Limbs ys1) (lx2 : Limbs xs2) (ly2 : Limbs ys2) (_mx1 : xs1.length ≤ maxLen) (_my1 : ys1.length ≤ maxLen) (_mx2 : xs2.length ≤ maxLen) (_my2 : ys2.length ≤ maxLen) (ht : Pow10 w) (c1 : xs1.length ≤ a1 ∧ ys1.length ≤ b1) (c2 : xs2.length ≤ a2 ∧ ys2.length ≤ b2) :
    Calls Tryz.prog 3 #[.agg #[.bool s1, .slice A1 xs1.length a1, .slice B1 ys1.length b1], .agg #[.bool s2, .slice A2 xs2.length a2, .slice B2 ys2.length b2]] w fun e w' => e = .returned (.bool true) ∧ Below w.heap.size w w' := by
  have AW := hide (fun W (k : Below w.heap.size w W) => awake3_any W (pow_below ht k))
  by_cases hr : xs1.length ≤ 10 ∧ ys1.length ≤ 10 ∧ xs2.length ≤ 10 ∧ ys2.length ≤ 10
  · have FW := hide (fun W (_ : Below w.heap.size w W) => few_any s1 s2 A1 B1 A2 B2 a1 b1 a2 b2 xs1.length ys1.length xs2.length ys2.length W true (decide_eq_true hr))
    obtain ⟨z1, N1, D1, k1, l1, m1, _, O1, P1⟩ := pair_add s1 s2 A1 B1 A2 B2 a1 b1 a2 b2 xs1 ys1 xs2 ys2 w sA1 sB1 sA2 sB2 lx1 ly1 lx2 ly2 hr
    obtain ⟨z2, N2, D2, k2, l2, m2, _, O2, P2⟩ := pair_sub s1 s2 A1 B1 A2 B2 a1 b1 a2 b2 xs1 ys1 xs2 ys2 w sA1 sB1 sA2 sB2 lx1 ly1 lx2 ly2 hr c2.1 c2.2
    obtain ⟨z3, N3, D3, k3, l3, m3, _, O3, P3⟩ := pair_mul s1 s2 A1 B1 A2 B2 a1 b1 a2 b2 xs1 ys1 xs2 ys2 w sA1 sB1 sA2 sB2 lx1 ly1 lx2 ly2 hr
    obtain ⟨z4, N4, D4, k4, l4, m4, _, O4, P4⟩ := pair_quo s1 s2 A1 B1 A2 B2 a1 b1 a2 b2 xs1 ys1 xs2 ys2 w sA1 sB1 sA2 sB2 lx1 ly1 lx2 ly2 hr
    obtain ⟨kc, C1, C2⟩ := pair_cmp s1 s2 A1 B1 A2 B2 a1 b1 a2 b2 xs1 ys1 xs2 ys2 w sA1 sB1 sA2 sB2 lx1 ly1 lx2 ly2 hr
    obtain ⟨⟨ks, G1, G2⟩, ⟨rv, E1, E2⟩, ⟨z5, N5, D5, l5, m5, M1, M2⟩⟩ := pair_one s1 A1 B1 a1 b1 xs1 ys1 w sA1 sB1 lx1 ly1 ⟨hr.1, hr.2.1⟩ c1.1 c1.2
    exact rsums_in s1 s2 A1 B1 A2 B2 _ a1 _ b1 _ a2 _ b2 w z1 z2 z3 z4 z5 rv N1 D1 N2 D2 N3 D3 N4 D4 N5 D5 k1 k2 k3 k4 kc ks l1 m1 l2 m2 l3 m3 l4 m4 l5 m5 FW AW (hide O1) (hide P1) (hide O2) (hide P2) (hide O3) (hide P3) (hide O4) (hide P4) (hide C1) (hide C2) (hide G1) (hide G2) (hide E1) (hide E2) (hide M1) (hide M2)
  · have FW := hide (fun W (_ : Below w.heap.size w W) => few_any s1 s2 A1 B1 A2 B2 a1 b1 a2 b2 xs1.length ys1.length xs2.length ys2.length W false (decide_eq_false hr))
    clear ht sA1 sB1 sA2 sB2 lx1 ly1 lx2 ly2 _mx1 _my1 _mx2 _my2 hr c1 c2
    generalize xs1.length = i1 at *
    generalize ys1.length = j1 at *
    generalize xs2.length = i2 at *
    generalize ys2.length = j2 at *
    have Xa := hide ((Q3.new (.bool s1) (.slice A1 i1 a1) (.slice B1 j1 b1) w ).al (.cells #[.bool s2, .slice A2 i2 a2, .slice B2 j2 b2] 24))
    have Xb := hide (Q3.new1 (.bool s2) (.slice A2 i2 a2) (.slice B2 j2 b2) w (.cells #[.bool s1, .slice A1 i1 a1, .slice B1 j1 b1] 24))
    have e0 : Below w.heap.size w ((w.alloc (.cells #[.bool s1, .slice A1 i1 a1, .slice B1 j1 b1] 24)).alloc (.cells #[.bool s2, .slice A2 i2 a2, .slice B2 j2 b2] 24)) := (bl_al (bl_al (.refl _ _) _) _)
    go_enter Tryz.func3, Tryz.ntmps3
    go_wp2_with (first
      | (go_at_call 8; (with_reducible refine (FW.out _ e0).mono ?_); rintro e w1 ⟨rfl, hb⟩; have g := hb; have Xa := hide (Xa.out.next g); have Xb := hide (Xb.out.next g); have b1 := bl_trans e0 g; obtain ⟨xac1, xac2, xac3, xac4, xac5, xac6⟩ := Xa.out; obtain ⟨xbc1, xbc2, xbc3, xbc4, xbc5, xbc6⟩ := Xb.out; clear hb g)
      | (go_at_call 9; (with_reducible refine (AW.out _ b1).mono ?_); rintro e w2 ⟨rfl, hb⟩; have g := hb; have Xa := hide (Xa.out.next g); have Xb := hide (Xb.out.next g); have b2 := bl_trans b1 g; (try clear xac1 xac2 xac3 xac4 xac5 xac6); (try clear xbc1 xbc2 xbc3 xbc4 xbc5 xbc6); obtain ⟨xac1, xac2, xac3, xac4, xac5, xac6⟩ := Xa.out; obtain ⟨xbc1, xbc2, xbc3, xbc4, xbc5, xbc6⟩ := Xb.out; clear hb g))
    go_ret
    exact ⟨rfl, b2⟩
end Nt

end Go.Proofs.YtboppbidldomhaaGreatDoor
