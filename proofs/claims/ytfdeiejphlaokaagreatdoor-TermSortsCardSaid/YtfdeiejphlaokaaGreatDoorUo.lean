
/-
  A table of terms: Node.
  A table of terms: the constants within a term (one at most).
  Round, Ints.
  A table of terms: Node; a name that is not there; Fresh.
  The tables that the laws begin with.
  The tables that the laws begin with: the walk.
  Make, as the laws use it.
  A number's term.
-/
import Derived.Test.YtfdeiejphlaokaaGreatDoorUi

import Derived.Test.YtfdeiejphlaokaaGreatDoorUa

import Derived.Test.YtfdeiejphlaokaaGreatDoorRq

import Derived.Test.YtfdeiejphlaokaaGreatDoorShelf

import Derived.Test.YtfdeiejphlaokaaGreatDoorDec

namespace Go.Proofs.YtfdeiejphlaokaaGreatDoor

open Go.ChangeShapes Go.RowKit

namespace Nt
set_option maxRecDepth 100000
set_option linter.unusedSimpArgs false
set_option linter.unusedVariables false

section

variable {X : List Nat} {B0 : Nat} {w0 w : World} {q N : Nat} {so fu : List (ByteArray × Nat)} {ty : List Fn} {ns : List Nd}
theorem node_end {g : Nat} {W : World} {v0 v1 v2 v3 v4 v5 v6 : Value} {w : World} (hb : Below w.heap.size w W) (hl : w.heap.size ≤ g) (h2 : Bk g #[.int .i64 0, .string ⟨#[]⟩, .bool false, .slice none 0 0, .slice none 0 0, .slice none 0 0, .int .i64 0] 38 W) {F : World}
    (hF : F = set7 W g v0 v1 v2 v3 v4 v5 v6) : Bk g #[v0, v1, v2, v3, v4, v5, v6] 38 F ∧ Below w.heap.size w F ∧ ∀ (A : Option Addr) (vs : List Value), (∀ S : List Nat, (∀ b ∈ S, b < w.heap.size) → Rw (g :: S) W A vs) → Nw w F A vs := by
  subst hF
  refine ⟨bk_set7 h2 _ _ _ _ _ _ _, hb.trans ((off_set7 W g _ _ _ _ _ _ _).below hb.size (by intro b hb; simp at hb; omega)), fun A vs h S hS => (h S hS).off (off_set7 W g _ _ _ _ _ _ _) (by intro b hb; simp at hb; subst hb; exact .inl (by simp)) (fun b hb => .inl (List.mem_cons_of_mem _ hb))⟩

set_option maxHeartbeats 4000000 in
theorem node_t (h : Tt X B0 w0 w q N so fu ty ns) (hN : N ≤ 100000) (i : Nat) (hi : i < ns.length) :
    Calls Tryz.prog 11 #[.pointer (some ⟨q, 0, none⟩), .int .i64 (i : Int)] w fun ee w' => ∃ A c B d C e, ee = .returned (.tuple #[.agg (nv ns[i].op ns[i].nm ns[i].ng A ns[i].nu.length c B ns[i].de.length d C ns[i].ar.length e ns[i].so), .bool true]) ∧
      Nw w w' A (us ns[i].nu) ∧ Nw w w' B (us ns[i].de) ∧ Nw w w' C (zs ns[i].ar) ∧ Below w.heap.size w w' := by
  obtain ⟨p, T, v, m1, m2, h1, h2, h3⟩ := h
  have hfit := h1.fit _ (List.getElem_mem hi)
  obtain ⟨A0, c0, rfl, hv⟩ := h1.vw (by omega)
  obtain ⟨W0, hW0⟩ : ∃ W, W = w.alloc (.cells #[.int .i64 0, .string ⟨#[]⟩, .bool false, .slice none 0 0, .slice none 0 0, .slice none 0 0, .int .i64 0] 38) := ⟨_, rfl⟩
  have hb0 : Below w.heap.size w W0 := by rw [hW0]; exact bel_al _ _
  have hB0 : Bk w.heap.size #[.int .i64 0, .string ⟨#[]⟩, .bool false, .slice none 0 0, .slice none 0 0, .slice none 0 0, .int .i64 0] 38 W0 := by rw [hW0]; exact Bk.new _ _ _
  have h10 := h1.next hb0
  have hv0 := hv.next hb0
  have hh := has_t q ns.length c0 A0 (i : Int) W0 hv0.sl
  rw [show hasT ns.length (i : Int) = true from hasT_iff.2 ⟨by omega, by omega⟩] at hh
  obtain ⟨xs, hx, hF⟩ := h10.row
  obtain ⟨A, c, B, d, C, e, q0, q1, q2, q3, q4, q5, q6, q7, r1, r2, r3⟩ := Ns.get hF i hi
  rcases hx.2 with ⟨_, hz⟩ | ⟨g, cap, cu, eq, hxx⟩
  · omega
  cases eq
  have y0 := hx.cells (g := g) rfl _ _ q0
  have y1 := hx.cells (g := g) rfl _ _ q1
  have y2 := hx.cells (g := g) rfl _ _ q2
  have y3 := hx.cells (g := g) rfl _ _ q3
  have y4 := hx.cells (g := g) rfl _ _ q4
  have y5 := hx.cells (g := g) rfl _ _ q5
  have y6 := hx.cells (g := g) rfl _ _ q6
  rw [Addr.add_lit, Nat.zero_add] at y0 y1 y2 y3 y4 y5 y6
  have O := own_t ns[i].op ns[i].nm ns[i].ng ns[i].nu ns[i].de ns[i].ar ns[i].so A B C c d e W0 _ r1 r2 r3 hfit.nu hfit.de hfit.ar
  have hsl := hv0.sl
  have hle := hv.le
  have hi2 : (i : Int) < (ns.length : Int) := by omega
  have hgl : w.heap.size < W0.heap.size := by rw [hW0]; simp
  have hst : ∀ w1, Below W0.heap.size W0 w1 → Bk w.heap.size #[.int .i64 0, .string ⟨#[]⟩, .bool false, .slice none 0 0, .slice none 0 0, .slice none 0 0, .int .i64 0] 38 w1 ∧ Below w.heap.size w w1 := fun w1 hb => ⟨hB0.next hb, hb0.trans (hb.mono hb0.size)⟩
  have hnw : ∀ w1 A' vs, Nw W0 w1 A' vs → ∀ S : List Nat, (∀ b ∈ S, b < w.heap.size) → Rw (w.heap.size :: S) w1 A' vs := fun w1 A' vs h S hS => h _ (by
    intro b hb
    rcases List.mem_cons.1 hb with rfl | hb
    · exact hgl
    · exact Nat.lt_of_lt_of_le (hS b hb) hb0.size)
  unfold nv at O ⊢
  generalize hu1 : us ns[i].nu = u1 at *
  generalize hu2 : us ns[i].de = u2 at *
  generalize hu3 : zs ns[i].ar = u3 at *
  generalize ns[i].nu.length = n1 at *
  generalize ns[i].de.length = n2 at *
  generalize ns[i].ar.length = n3 at *
  generalize ns[i].op = op at *
  generalize ns[i].nm = nm at *
  generalize ns[i].ng = ng at *
  generalize ns[i].so = sx at *
  replace O := hide O; replace hst := hide hst; replace hnw := hide hnw
  have hW := hide hW0
  clear hxx
  clear h1 h2 h3 h10 hv hv0 hfit hx hF q0 q1 q2 q3 q4 q5 q6 q7 r1 r2 r3 hB0 hb0 hW0 hu1 hu2 hu3 hgl hi
  generalize ns.length = n at *
  go_enter Tryz.func11, Tryz.ntmps11
  go_wp2_with (first
    | (go_at_call 28; rw [← hW.out]; (with_reducible refine hh.mono ?_); rintro ee w' ⟨rfl, rfl⟩)
    | (go_at_call 29; (with_reducible refine O.out.mono ?_); rintro ee w1 ⟨A', c', B', d', C', e', rfl, N1, N2, N3, hb1⟩; obtain ⟨k1, k2⟩ := hst.out _ hb1; obtain ⟨z0, z1, z2, z3, z4, z5, z6⟩ := cells7 k1; obtain ⟨f0, f1, f2, f3, f4, f5, f6⟩ := free7 k1; replace k1 := hide k1; replace k2 := hide k2; replace N1 := hide (hnw.out _ _ _ N1); replace N2 := hide (hnw.out _ _ _ N2); replace N3 := hide (hnw.out _ _ _ N3); replace hb1 := hide hb1))
  obtain ⟨F, hF⟩ : ∃ F, F = set7 w1 w.heap.size (.int .i64 op) (.string nm) (.bool ng) (.slice A' n1 c') (.slice B' n2 d') (.slice C' n3 e') (.int .i64 sx) := ⟨_, rfl⟩
  obtain ⟨hY, e1, e2⟩ := node_end k2.out (Nat.le_refl _) k1.out hF
  clear z0 z1 z2 z3 z4 z5 z6
  obtain ⟨z0, z1, z2, z3, z4, z5, z6⟩ := cells7 hY
  unfold set7 at hF
  rw [← hF]
  exact bodyPost_ret (v := .tuple #[.agg #[.int .i64 op, .string nm, .bool ng, .slice A' n1 c', .slice B' n2 d', .slice C' n3 e', .int .i64 sx], .bool true]) (by simp [results, Tryz.results11, go_sem, z0, z1, z2, z3, z4, z5, z6]) rfl ⟨A', c', B', d', C', e', rfl, e2 _ _ N1.out, e2 _ _ N2.out, e2 _ _ N3.out, e1⟩
end

end Nt

end Go.Proofs.YtfdeiejphlaokaaGreatDoor

namespace Go.Proofs.YtfdeiejphlaokaaGreatDoor

open Go.ChangeShapes Go.RowKit

namespace Nt
set_option maxRecDepth 100000
set_option linter.unusedSimpArgs false
set_option linter.unusedVariables false

/-- A row of ints of the call's own. -/
def Zw (B : Nat) (w : World) (v : Value) (xs : List Int) : Prop := w.ownsRow B 3 1 v xs.length (zs xs)
theorem Zw.nil (B : Nat) (w : World) : Zw B w (.slice none 0 0) [] := World.ownsRow_nil _ _ _ _
theorem Zw.off {B : Nat} {T : List Nat} {w w' : World} {v : Value} {xs : List Int} (h : Zw B w v xs) (hf : Off T w w') (hT : ∀ k, v.ownBlock = some k → k ∉ T) : Zw B w' v xs := Off.row h hf hT
theorem Zw.form {B : Nat} {w : World} {v : Value} {xs : List Int} (h : Zw B w v xs) : ∃ A c, v = .slice A xs.length c := by
  rcases h.2 with ⟨e, h⟩ | ⟨g, cap, cu, e, _⟩
  · exact ⟨none, 0, by rw [e, h]⟩
  · exact ⟨_, _, e⟩
theorem Zw.push {B : Nat} {w : World} {v : Value} {xs : List Int} (h : Zw B w v xs) (hB : B ≤ w.heap.size) (x : Int) (hl : xs.length ≤ 1000000) :
    ∃ A' c' w', (∀ ty, (Builtin.append_ #[22, 22] ty #[v, .slice (some ⟨w.heap.size, 0, none⟩) 1 1]).run Tryz.prog (w.alloc (.cells #[.int .i64 x] 3)) = .ok (.slice A' (xs.length + 1) c') w') ∧ Zw B w' (.slice A' (xs.length + 1) c') (xs ++ [x]) ∧ Below B w w' ∧
      Off v.ownBlock.toList w w' ∧ ∀ b, (Value.slice A' (xs.length + 1) c').ownBlock = some b → v.ownBlock = some b ∨ w.heap.size ≤ b := by
  obtain ⟨i, hinf, hz, h1, h8⟩ := infZ
  have hb : Bk w.heap.size #[.int .i64 x] 3 (w.alloc (.cells #[.int .i64 x] 3)) := Bk.new _ _ _
  have hcells : ∀ j u, ([.int .i64 x] : List Value)[j]? = some u → (w.alloc (.cells #[.int .i64 x] 3)).cell? ((⟨w.heap.size, 0, none⟩ : Addr).add j) = some u := by
    intro j u hu
    rw [Addr.add_lit, Nat.zero_add]
    refine hb.cell ?_
    rw [← Array.getElem?_toList]
    exact hu
  obtain ⟨v', w', hr, h2, h3, h4, h5⟩ := run_append_own_at (P := Tryz.prog) (w.alloc (.cells #[.int .i64 x] 3)) B 22 0 3 i (.int .i64 0) 1 8 Tryz.underlying22 hinf hz h1 h8 rfl (by decide) v xs.length _ (h.alloc _) ⟨w.heap.size, 0, none⟩ 1 1 [.int .i64 x] (by simp) hcells
    (by intro u hu; simp at hu; subst hu; rfl) (by unfold maxLen; omega) (by omega) (by simp; omega)
  have hform : ∃ A' c', v' = .slice A' (xs.length + 1) c' := by
    rcases h2.2 with ⟨_, h⟩ | ⟨g, cap, cu, e, _⟩
    · omega
    · exact ⟨_, _, e⟩
  obtain ⟨A', c', rfl⟩ := hform
  have hoff : Off v.ownBlock.toList w w' := ((Off.refl v.ownBlock.toList w).alloc _).trans (Off.of_grown (T := v.ownBlock.toList) h3 (fun k hk => .inl (by simp [hk]))) (fun b hb => .inl hb)
  refine ⟨A', c', w', fun ty => hr, ?_, ?_, hoff, ?_⟩
  · show w'.ownsRow B 3 1 (.slice A' (xs.length + 1) c') (xs ++ [x]).length (zs (xs ++ [x]))
    rw [List.length_append]
    unfold zs
    rw [List.map_append]
    exact h2
  · refine hoff.below hB (fun b hb => ?_)
    rw [Option.mem_toList] at hb
    exact (h.lt b hb).1
  · intro b hb
    rcases h5 with h5 | h5
    · exact .inl (h5 ▸ hb)
    · rw [h5] at hb
      have : (w.alloc (.cells #[.int .i64 x] 3)).heap.size = w.heap.size + 1 := by simp
      injection hb with hb
      exact .inr (by omega)

theorem Zw.nw {w w' : World} {A : Option Addr} {m c : Nat} {xs : List Int} (h : Zw (w.heap.size + 1) w' (.slice A m c) xs) (hm : m = xs.length) : Nw w w' A (zs xs) := by
  subst hm
  intro S hS
  rcases h.2 with ⟨e, h0⟩ | ⟨g, cap, cu, e, h1, h2, _⟩
  · have : xs = [] := List.eq_nil_of_length_eq_zero h0
    subst this
    exact .inl rfl
  · cases e
    refine .inr ⟨g, 0, rfl, (Array.getElem?_eq_some_iff.1 h2).1, fun hm => by have := hS g hm; omega, fun j v hj => ?_⟩
    have := h.cells (g := g) rfl j v hj
    rwa [Addr.add_lit] at this

/-- A row of bools. -/
def bs (l : List Bool) : Array Value := (l.map Value.bool).toArray
theorem bs_get {l : List Bool} {j : Nat} (h : j < l.length) : (bs l)[j]? = some (.bool l[j]) := by
  unfold bs
  simp [List.getElem?_eq_getElem h]
theorem bs_set (l : List Bool) (j : Nat) (b : Bool) : bs (l.set j b) = (bs l).setIfInBounds j (.bool b) := by
  unfold bs
  simp [List.map_set]
def markB (wi : List Bool) (ar : List Int) : List Bool := ar.foldl (fun w a => w.set a.toNat true) wi
theorem mark_len (ar : List Int) : ∀ wi : List Bool, (markB wi ar).length = wi.length := by
  induction ar with
  | nil => intro wi; rfl
  | cons a l ih => intro wi; show (markB (wi.set a.toNat true) l).length = _; rw [ih, List.length_set]
theorem mark_step {wi : List Bool} {ar : List Int} {j : Nat} (h : j < ar.length) : markB wi (ar.take (j + 1)) = (markB wi (ar.take j)).set (ar.getD j 0).toNat true := by
  unfold markB
  rw [List.take_add_one, List.foldl_append, List.getElem?_eq_getElem h]
  simp [List.getD, List.getElem?_eq_getElem h]
/-- The constants within: from place k - 1 down. -/
def vrs (ns : List Nd) : Nat → List Bool → List Int → List Int
  | 0, _, vs => vs
  | k + 1, wi, vs =>
    if wi.getD k false = true then
      match ns[k]? with
      | some n => vrs ns k (markB wi n.ar) (if n.op = 12 ∧ n.ar.length = 0 then vs ++ [(k : Int)] else vs)
      | none => vs
    else vrs ns k wi vs
def varsOf (ns : List Nd) (i : Nat) : List Int := vrs ns (i + 1) ((List.replicate (i + 1) false).set i true) []
theorem vrs_no {ns : List Nd} {k : Nat} {wi : List Bool} {vs : List Int} (h : wi.getD k false = false) : vrs ns (k + 1) wi vs = vrs ns k wi vs := by
  show (if wi.getD k false = true then _ else _) = _
  rw [if_neg (by rw [h]; decide)]
theorem vrs_yes {ns : List Nd} {k : Nat} {wi : List Bool} {vs : List Int} (h : wi.getD k false = true) (hk : k < ns.length) : vrs ns (k + 1) wi vs = vrs ns k (markB wi ns[k].ar) (if ns[k].op = 12 ∧ ns[k].ar.length = 0 then vs ++ [(k : Int)] else vs) := by
  show (if wi.getD k false = true then _ else _) = _
  rw [if_pos h]
  simp [List.getElem?_eq_getElem hk]

theorem infB : ∃ i : TypeInfo, Tryz.prog.info? 4 = some i ∧ i.zero = some (.bool false) ∧ i.size = 1 ∧ i.bytes = 1 := info_parts (P := Tryz.prog) (e := 4) (z := .bool false) (size := 1) (bytes := 1) (by kernel_rfl)
theorem run_make_b (kl kc : IntKind) (n c : Nat) (hnc : n ≤ c) (h63 : c ≤ 1000000) (w : World) :
    (Instr.makeSlice 85 (.int kl (n : Int)) (.int kc (c : Int))).run Tryz.prog w = .ok (.slice (some ⟨w.heap.size, 0, none⟩) n c) (w.alloc (.cells (madeCells #[.bool false] c) 4)) := by
  obtain ⟨i, hi, hz, h1, h8⟩ := infB
  have hr := run_make (P := Tryz.prog) w 85 4 i (.bool false) Tryz.underlying85 hi hz kl kc n c (by omega) (by omega) (by rw [h8]; omega) (by omega)
  simp only [Int.toNat_natCast, h1, Nat.mul_one] at hr
  exact hr
theorem made_bs (n : Nat) : madeCells #[.bool false] n = bs (List.replicate n false) := by
  apply Array.toList_inj.1
  rw [toList_madeCells_one]
  simp [bs]

/-- slices.Reverse of one at most. -/
theorem rev_one (A : Option Addr) (n c : Nat) (hn : n ≤ 1) (w : World) : Calls Tryz.prog 30 #[.slice A n c] w fun e w' => e = .returned (.tuple #[]) ∧ w = w' := by
  have h01 : n = 0 ∨ n = 1 := by omega
  rcases h01 with rfl | rfl
  · go_enter Tryz.func30, Tryz.ntmps30
    go_wp2
    go_loop [2, 3] (fun i j => i = .int .i64 0 ∧ j = .int .i64 (-1)) (fun _ _ => 0)
    case atStart => exact ⟨rfl, rfl⟩
    case round =>
      obtain ⟨rfl, rfl⟩ := hrel
      go_wp2
      go_end0
      exact ⟨rfl, rfl⟩
  · go_enter Tryz.func30, Tryz.ntmps30
    go_wp2
    go_loop [2, 3] (fun i j => i = .int .i64 0 ∧ j = .int .i64 0) (fun _ _ => 0)
    case atStart => exact ⟨rfl, rfl⟩
    case round =>
      obtain ⟨rfl, rfl⟩ := hrel
      go_wp2
      go_end0
      exact ⟨rfl, rfl⟩

section

variable {X : List Nat} {B0 : Nat} {w0 w : World} {q N : Nat} {so fu : List (ByteArray × Nat)} {ty : List Fn} {ns : List Nd}
/-- What is read of a term: where its operator and its args lie. -/
theorem tt_rows (h : Tt X B0 w0 w q N so fu ty ns) (hN : N ≤ 100000) (hpos : 0 < ns.length) : ∃ g c, w.cell? ⟨q, 1, none⟩ = some (.slice (some ⟨g, 0, none⟩) ns.length c) ∧ ∀ k (hk : k < ns.length), w.cell? ⟨g, k * 8, none⟩ = some (.int .i64 ns[k].op) ∧ ∃ C e, w.cell? ⟨g, k * 8 + 5, none⟩ = some (.slice C ns[k].ar.length e) ∧ Ir [] w C ns[k].ar ∧ (∀ a ∈ ns[k].ar, 0 ≤ a ∧ a < (k : Int)) ∧ ns[k].ar.length ≤ 64 := by
  obtain ⟨p, T, v, m1, m2, h1, h2, h3⟩ := h
  obtain ⟨A0, c0, rfl, hv⟩ := h1.vw (by omega)
  obtain ⟨xs, hx, hF⟩ := h1.row
  rcases hx.2 with ⟨_, hz⟩ | ⟨g, cap, cu, eq, hxx⟩
  · omega
  cases eq
  refine ⟨g, _, hv.sl, fun k hk => ?_⟩
  obtain ⟨A, c, B, d, C, e, q0, q1, q2, q3, q4, q5, q6, q7, r1, r2, r3⟩ := Ns.get hF k hk
  have y0 := hx.cells (g := g) rfl _ _ q0
  have y5 := hx.cells (g := g) rfl _ _ q5
  rw [Addr.add_lit, Nat.zero_add] at y0 y5
  exact ⟨y0, C, e, y5, (r3.more (T' := []) (by simp)).ir, h1.args k hk, (h1.fit _ (List.getElem_mem hk)).ar⟩

set_option maxHeartbeats 4000000 in
theorem vars_t (h : Tt X B0 w0 w q N so fu ty ns) (hN : N ≤ 100000) (i : Nat) (hi : i < ns.length) (hone : (varsOf ns i).length ≤ 1) :
    Calls Tryz.prog 13 #[.pointer (some ⟨q, 0, none⟩), .int .i64 (i : Int)] w fun ee w' => ∃ A c, ee = .returned (.slice A (varsOf ns i).length c) ∧ Nw w w' A (zs (varsOf ns i)) ∧ Below w.heap.size w w' := by
  obtain ⟨g, c, hsl, hrd0⟩ := tt_rows h hN (by omega)
  have hh := has_t q ns.length c _ (i : Int) w hsl
  rw [show hasT ns.length (i : Int) = true from hasT_iff.2 ⟨by omega, by omega⟩] at hh
  have hle : ns.length ≤ 100000 := by obtain ⟨p, T, v, m1, m2, h1, _⟩ := h; exact Nat.le_trans h1.le hN
  have hrd : ∀ W, Below w.heap.size w W → W.cell? ⟨q, 1, none⟩ = some (.slice (some ⟨g, 0, none⟩) ns.length c) ∧ ∀ k (hk : k < ns.length), W.cell? ⟨g, k * 8, none⟩ = some (.int .i64 ns[k].op) ∧ ∃ C e, W.cell? ⟨g, k * 8 + 5, none⟩ = some (.slice C ns[k].ar.length e) ∧ (∀ W', Below w.heap.size w W' → Ir [] W' C ns[k].ar) ∧ (∀ a ∈ ns[k].ar, 0 ≤ a ∧ a < (k : Int)) ∧ ns[k].ar.length ≤ 64 := by
    intro W hb
    refine ⟨(hb.cell (p := ⟨q, 1, none⟩) (cell_in hsl)).trans hsl, fun k hk => ?_⟩
    obtain ⟨y0, C, e, y5, y6, y7⟩ := hrd0 k hk
    exact ⟨(hb.cell (p := ⟨g, k * 8, none⟩) (cell_in y0)).trans y0, C, e, (hb.cell (p := ⟨g, k * 8 + 5, none⟩) (cell_in y5)).trans y5, fun W' hb' => y6.off (T' := []) (Off.of_below hb' []) (by simp) (by simp), y7⟩
  have hmk : ∀ W : World, (Instr.makeSlice 85 (.int .i64 ((i : Int) + 1)) (.int .i64 ((i : Int) + 1))).run Tryz.prog W = .ok (.slice (some ⟨W.heap.size, 0, none⟩) (i + 1) (i + 1)) (W.alloc (.cells (bs (List.replicate (i + 1) false)) 4)) := fun W => by
    have := run_make_b .i64 .i64 (i + 1) (i + 1) (Nat.le_refl _) (by omega) W
    rw [made_bs] at this
    exact this
  obtain ⟨R, hR⟩ : ∃ R, R = varsOf ns i := ⟨_, rfl⟩
  rw [← hR] at hone ⊢
  have hci : (bs (List.replicate (i + 1) false))[i]? = some (.bool false) := by
    have := bs_get (l := List.replicate (i + 1) false) (j := i) (by simp)
    simpa using this
  have hBk1 : Bk w.heap.size (bs ((List.replicate (i + 1) false).set i true)) 4 (w.alloc (.cells ((bs (List.replicate (i + 1) false)).setIfInBounds i (.bool true)) 4)) := by
    rw [← bs_set]; exact Bk.new _ _ _
  have hb2 : Below w.heap.size w (w.alloc (.cells ((bs (List.replicate (i + 1) false)).setIfInBounds i (.bool true)) 4)) := bel_al _ _
  replace hrd := hide hrd; replace hR := hide hR; replace hBk1 := hide hBk1; replace hb2 := hide hb2
  replace hone := hide hone
  have hi2 : (i : Int) < (ns.length : Int) := by omega
  clear h hrd0 hsl
  go_enter Tryz.func13, Tryz.ntmps13
  go_wp2_with (go_at_call 28; (with_reducible refine hh.mono ?_); rintro ee w' ⟨rfl, rfl⟩)
  clear hmk hh hci
  go_loopw [5, 7] (fun v kk wr => ∃ (k : Nat) (wi : List Bool) (vs : List Int) (A : Option Addr) (cv m : Nat), k ≤ i + 1 ∧ kk = .int .i64 ((k : Int) - 1) ∧ v = .slice A m cv ∧ m = vs.length ∧ Zw (w.heap.size + 1) wr (.slice A m cv) vs ∧ Bk w.heap.size (bs wi) 4 wr ∧ wi.length = i + 1 ∧ Below w.heap.size w wr ∧ vrs ns k wi vs = R ∧ vs.length + k ≤ 200000) (fun _ kk _ => ((intOf kk) + 1).toNat)
  case atStart => exact ⟨i + 1, _, [], none, 0, 0, Nat.le_refl _, by simp, rfl, rfl, Zw.nil _ _, hBk1.out, by simp, hb2.out, by rw [hR.out]; rfl, by simp; omega⟩
  case round =>
    obtain ⟨k, wi, vs, A, cv, m, hk, rfl, rfl, hm, hZ, hB, hwl, hb, hv, hlen⟩ := hrel
    cases k with
    | zero =>
      have hRv : vs = R := hv
      subst hRv
      subst hm
      have hrv := rev_one A vs.length cv hone.out wr
      replace hZ := hide hZ
      replace hb := hide hb
      replace hB := hide hB
      go_wp2_with (go_at_call 30; (with_reducible refine hrv.mono ?_); rintro ee w' ⟨rfl, rfl⟩)
      go_ret
      exact ⟨A, cv, rfl, hZ.out.nw rfl, hb.out⟩
    | succ k =>
      have e1 : ((k + 1 : Nat) : Int) - 1 = (k : Int) := by omega
      rw [e1]
      clear e1
      have hkw : k < wi.length := by omega
      have hkn : k < ns.length := by omega
      have hcw := hB.cell (j := k) (bs_get (l := wi) hkw)
      have hgd : wi.getD k false = wi[k] := by simp [List.getD, List.getElem?_eq_getElem hkw]
      have hki : (k : Int) < (i : Int) + 1 := by omega
      have hki2 : (k : Int) < (ns.length : Int) := by omega
      rw [← hgd] at hcw
      clear hgd
      replace hlen := hide hlen; replace hm := hide hm; replace hwl := hide hwl
      cases hx : wi.getD k false
      · rw [hx] at hcw
        have hvr := hide ((vrs_no hx).symm.trans hv)
        replace hB := hide hB; replace hZ := hide hZ; replace hb := hide hb
        clear hv hx
        go_wp2
        go_roundw
        case rel => exact ⟨k, wi, vs, A, cv, m, by omega, rfl, rfl, hm.out, hZ.out, hB.out, hwl.out, hb.out, hvr.out, by have := hlen.out; omega⟩
        case measure => simp only [intOf]; omega
      · rw [hx] at hcw
        have hvr := (vrs_yes hx hkn).symm.trans hv
        clear hv hx
        obtain ⟨wo, rfl⟩ : ∃ wo : World, wo = wr := ⟨_, rfl⟩
        obtain ⟨y1, hr⟩ := hrd.out wo hb
        obtain ⟨y2, C, e, y3, hir, hin, h64⟩ := hr k hkn
        obtain ⟨na, hna⟩ : ∃ n, n = ns[k].ar.length := ⟨_, rfl⟩
        rw [← hna] at y3 h64 hvr
        replace hna := hide hna; replace hir := hide hir; replace hin := hide hin
        replace hr := hide hr
        have hkk : (0 : Int) ≤ (k : Int) := by omega
        by_cases h12 : ns[k].op = 12
        · rw [h12] at y2
          by_cases h0 : na = 0
          · rw [if_pos ⟨h12, h0⟩] at hvr
            replace hvr := hide hvr; replace h12 := hide h12
            obtain ⟨A', c', w3, hap, hZ3, hb3, hO3, hl3⟩ := hZ.push (by have := hB.lt; omega) (k : Int) (by have := hlen.out; omega)
            rw [← hm.out] at hap hZ3
            have hB3 := hide (hB.off hO3 (fun hmm => by rw [Option.mem_toList] at hmm; have := (hZ.lt _ hmm).1; omega))
            have hbw : Below w.heap.size w w3 := hb.trans (hb3.mono (Nat.le_succ _))
            replace hb3 := hide hbw
            replace hZ3 := hide hZ3; replace hB := hide hB; replace hZ := hide hZ; replace hb := hide hb; replace hO3 := hide hO3; replace hl3 := hide hl3
            obtain ⟨z1, hr3⟩ := hrd.out w3 hbw
            obtain ⟨z2, C3, e3, z3, hir3, _, _⟩ := hr3 k hkn
            replace hr3 := hide hr3
            rw [h12.out] at z2
            rw [← hna.out, h0] at z3
            rw [h0] at y3
            replace hir3 := hide hir3
            have hnz : na = 0 := h0
            clear hbw
            go_wp2_with (at_builtin; refine wpList_append_run _ rfl _ _ _ rfl _ _ _ _ rfl rfl hap ?_)
            go_loopw [60] (fun jj wr => ∃ j : Nat, j ≤ na ∧ jj = .int .i64 (j : Int) ∧ Bk w.heap.size (bs (markB wi (ns[k].ar.take j))) 4 wr ∧ Zw (w.heap.size + 1) wr (.slice A' (m + 1) c') (vs ++ [(k : Int)]) ∧ Below w.heap.size w wr) (fun jj _ => na - (intOf jj).toNat)
            case atStart => exact ⟨0, Nat.zero_le _, rfl, hB3.out, hZ3.out, hb3.out⟩
            case round =>
              obtain ⟨j, hj, rfl, hBx, hZx, hbx⟩ := hrel
              by_cases hjl : j < na
              · omega
              · have hjm : j = na := by omega
                subst hjm
                rw [hna.out, List.take_length] at hBx
                replace hBx := hide hBx; replace hZx := hide hZx; replace hbx := hide hbx
                go_wp2
                go_roundw
                case rel => exact ⟨k, markB wi ns[k].ar, (vs ++ [(k : Int)]), A', c', (m + 1), by omega, rfl, rfl, by rw [hm.out, List.length_append]; rfl, hZx.out, hBx.out, by rw [mark_len]; exact hwl.out, hbx.out, hvr.out, by have := hlen.out; rw [List.length_append]; simp; omega⟩
                case measure => simp only [intOf]; omega
          · rw [if_neg (fun h => h0 h.2)] at hvr
            have g0 : ((na : Int) == 0) = false := beq_eq_false_iff_ne.2 (by omega)
            replace hvr := hide hvr; replace h12 := hide h12; replace hB := hide hB; replace hZ := hide hZ; replace hb := hide hb
            go_wp2
            go_loopw [60] (fun jj wr => ∃ j : Nat, j ≤ na ∧ jj = .int .i64 (j : Int) ∧ Bk w.heap.size (bs (markB wi (ns[k].ar.take j))) 4 wr ∧ Zw (w.heap.size + 1) wr (.slice A m cv) vs ∧ Below w.heap.size w wr) (fun jj _ => na - (intOf jj).toNat)
            case atStart => exact ⟨0, Nat.zero_le _, rfl, hB.out, hZ.out, hb.out⟩
            case round =>
              obtain ⟨j, hj, rfl, hBx, hZx, hbx⟩ := hrel
              by_cases hjl : j < na
              · have hjl2 : j < ns[k].ar.length := by rw [← hna.out]; exact hjl
                rcases hir.out wr hbx with he | ⟨b', o', rfl, _, _, hcx⟩
                · rw [he] at hjl2; simp at hjl2
                replace hcx := hcx j hjl2
                obtain ⟨a0, a1⟩ := hin.out _ (getD_mem hjl2)
                obtain ⟨a, ha⟩ : ∃ a : Nat, ns[k].ar.getD j 0 = (a : Int) := ⟨(ns[k].ar.getD j 0).toNat, by omega⟩
                have hal : a < wi.length := by rw [hwl.out]; omega
                have hmk := hide (mark_step (wi := wi) hjl2)
                have hcw := hBx.cell (j := a) (bs_get (l := markB wi (ns[k].ar.take j)) (by rw [mark_len]; exact hal))
                have hfw := hBx.free a
                have hBy := hBx.set (j := a) (.bool true) (bs_set (markB wi (ns[k].ar.take j)) a true)
                have hai : (a : Int) < (i : Int) + 1 := by omega
                have hO : Off [w.heap.size] wr (wr.setCell ⟨w.heap.size, a, none⟩ (.bool true)) := (Off.refl _ _).setCell _ _ (.inl (by simp))
                have hZy := hide (hZx.off hO (fun kk hkk hm => by have := (hZx.lt kk hkk).1; simp at hm; omega))
                have hby := hide (hbx.trans (hO.below hbx.size (by intro b hb; simp at hb; omega)))
                rw [show (ns[k].ar.getD j 0).toNat = a by omega] at hmk
                rw [← hmk.out] at hBy
                rw [ha] at hcx
                replace hBy := hide hBy
                replace hBx := hide hBx; replace hZx := hide hZx; replace hbx := hide hbx; replace ha := hide ha; replace hal := hide hal
                clear a0 a1
                generalize (markB wi (ns[k].ar.take j))[a]'_ = bx at hcw
                go_wp2
                go_roundw
                case rel => exact ⟨j + 1, hjl, rfl, hBy.out, hZy.out, hby.out⟩
                case measure => simp only [intOf]; omega
              · have hjm : j = na := by omega
                subst hjm
                rw [hna.out, List.take_length] at hBx
                replace hBx := hide hBx; replace hZx := hide hZx; replace hbx := hide hbx
                go_wp2
                go_roundw
                case rel => exact ⟨k, markB wi ns[k].ar, vs, A, cv, m, by omega, rfl, rfl, hm.out, hZx.out, hBx.out, by rw [mark_len]; exact hwl.out, hbx.out, hvr.out, by have := hlen.out; omega⟩
                case measure => simp only [intOf]; omega
        · rw [if_neg (fun h => h12 h.1)] at hvr
          have g12 : (ns[k].op == 12) = false := beq_eq_false_iff_ne.2 h12
          replace hvr := hide hvr; replace hB := hide hB; replace hZ := hide hZ; replace hb := hide hb
          go_wp2
          go_loopw [60] (fun jj wr => ∃ j : Nat, j ≤ na ∧ jj = .int .i64 (j : Int) ∧ Bk w.heap.size (bs (markB wi (ns[k].ar.take j))) 4 wr ∧ Zw (w.heap.size + 1) wr (.slice A m cv) vs ∧ Below w.heap.size w wr) (fun jj _ => na - (intOf jj).toNat)
          case atStart => exact ⟨0, Nat.zero_le _, rfl, hB.out, hZ.out, hb.out⟩
          case round =>
            obtain ⟨j, hj, rfl, hBx, hZx, hbx⟩ := hrel
            by_cases hjl : j < na
            · have hjl2 : j < ns[k].ar.length := by rw [← hna.out]; exact hjl
              rcases hir.out wr hbx with he | ⟨b', o', rfl, _, _, hcx⟩
              · rw [he] at hjl2; simp at hjl2
              replace hcx := hcx j hjl2
              obtain ⟨a0, a1⟩ := hin.out _ (getD_mem hjl2)
              obtain ⟨a, ha⟩ : ∃ a : Nat, ns[k].ar.getD j 0 = (a : Int) := ⟨(ns[k].ar.getD j 0).toNat, by omega⟩
              have hal : a < wi.length := by rw [hwl.out]; omega
              have hmk := hide (mark_step (wi := wi) hjl2)
              have hcw := hBx.cell (j := a) (bs_get (l := markB wi (ns[k].ar.take j)) (by rw [mark_len]; exact hal))
              have hfw := hBx.free a
              have hBy := hBx.set (j := a) (.bool true) (bs_set (markB wi (ns[k].ar.take j)) a true)
              have hai : (a : Int) < (i : Int) + 1 := by omega
              have hO : Off [w.heap.size] wr (wr.setCell ⟨w.heap.size, a, none⟩ (.bool true)) := (Off.refl _ _).setCell _ _ (.inl (by simp))
              have hZy := hide (hZx.off hO (fun kk hkk hm => by have := (hZx.lt kk hkk).1; simp at hm; omega))
              have hby := hide (hbx.trans (hO.below hbx.size (by intro b hb; simp at hb; omega)))
              rw [show (ns[k].ar.getD j 0).toNat = a by omega] at hmk
              rw [← hmk.out] at hBy
              rw [ha] at hcx
              replace hBy := hide hBy
              replace hBx := hide hBx; replace hZx := hide hZx; replace hbx := hide hbx; replace ha := hide ha; replace hal := hide hal
              clear a0 a1
              generalize (markB wi (ns[k].ar.take j))[a]'_ = bx at hcw
              go_wp2
              go_roundw
              case rel => exact ⟨j + 1, hjl, rfl, hBy.out, hZy.out, hby.out⟩
              case measure => simp only [intOf]; omega
            · have hjm : j = na := by omega
              subst hjm
              rw [hna.out, List.take_length] at hBx
              replace hBx := hide hBx; replace hZx := hide hZx; replace hbx := hide hbx
              go_wp2
              go_roundw
              case rel => exact ⟨k, markB wi ns[k].ar, vs, A, cv, m, by omega, rfl, rfl, hm.out, hZx.out, hBx.out, by rw [mark_len]; exact hwl.out, hbx.out, hvr.out, by have := hlen.out; omega⟩
              case measure => simp only [intOf]; omega
end

end Nt

end Go.Proofs.YtfdeiejphlaokaaGreatDoor

namespace Go.Proofs.YtfdeiejphlaokaaGreatDoor

open Go.ChangeShapes Go.RowKit

namespace Nt
set_option maxRecDepth 100000
set_option linter.unusedSimpArgs false
set_option linter.unusedVariables false
theorem round_math (x : Int) (n : Nat) (hn : 0 < n) : ((x.tmod n) + n).tmod n = x % n := by
  have h1 := Int.tmod_eq_emod_of_nonneg (a := x.tmod n + n) (b := n) (by have := Int.lt_tmod_of_pos x (b := (n : Int)) (by omega); omega)
  rw [h1, Int.add_emod_right, Int.tmod_def, Int.sub_eq_add_neg, ← Int.mul_neg, Int.add_mul_emod_self_left]

theorem round_any (x : Int) (n : Nat) (hn : 0 < n) (hl : n ≤ 1000000) (w : World) :
    Calls Tryz.prog 8 #[.int .i64 x, .int .i64 (n : Int)] w fun e w' => e = .returned (.int .i64 (x % (n : Int))) ∧ w = w' := by
  have hm := round_math x n hn
  have b1 := Int.lt_tmod_of_pos x (b := (n : Int)) (by omega)
  have b2 := Int.tmod_lt_of_pos x (b := (n : Int)) (by omega)
  have hm := hide hm
  have hnz : (n : Int) ≠ 0 := by omega
  go_enter Tryz.func8, Tryz.ntmps8
  go_wp2
  go_ret
  exact ⟨rfl, rfl⟩
theorem Ir.drewN {T : List Nat} {w : World} {A : Option Addr} {xs : List Int} (h : Ir T w A xs) (q : Nat) : Ir T (w.drewN q) A xs := h
theorem ints_step {xs ys : List Int} {k : Nat} (h1 : k < xs.length) (h2 : k < ys.length) (h : xs.take k = ys.take k) (he : xs.getD k 0 = ys.getD k 0) : xs.take (k + 1) = ys.take (k + 1) := by
  rw [List.take_add_one, List.take_add_one, h, List.getElem?_eq_getElem h1, List.getElem?_eq_getElem h2]
  simp [List.getD, List.getElem?_eq_getElem h1, List.getElem?_eq_getElem h2] at he
  rw [he]
theorem dq (w : World) (q : Nat) : ∃ m, (w.drewN q).drew = w.drewN m := ⟨q + 1, rfl⟩

set_option maxHeartbeats 1000000 in
theorem ints_any (A B : Option Addr) (xs ys : List Int) (c d : Nat) (T T' : List Nat) (w : World) (hx : Ir T w A xs) (hy : Ir T' w B ys) (hl : xs.length ≤ 1000000) (hm : ys.length ≤ 1000000) :
    Calls Tryz.prog 12 #[.slice A xs.length c, .slice B ys.length d] w fun e w' => e = .returned (.bool (xs == ys)) ∧ ∃ q, w' = w.drewN q := by
  by_cases hn : xs.length = ys.length
  · obtain ⟨r, hr⟩ : ∃ r, r = (xs == ys) := ⟨_, rfl⟩
    rw [← hr, ← hn]
    have hr := hide hr
    have hN := hide hn
    clear hn
    go_enter Tryz.func12, Tryz.ntmps12
    go_wp2
    go_loopw [5] (fun i wr => ∃ k : Nat, k ≤ xs.length ∧ i = .int .i64 (k : Int) ∧ xs.take k = ys.take k ∧ ∃ q, wr = w.drewN q) (fun i _ => xs.length - (intOf i).toNat)
    case atStart => exact ⟨0, Nat.zero_le _, rfl, rfl, 0, rfl⟩
    case round =>
      obtain ⟨k, hk, rfl, hd, q, rfl⟩ := hrel
      by_cases hkl : k < xs.length
      · rcases hx with he | ⟨b, o, rfl, _, _, hc⟩
        · rw [he] at hkl; simp at hkl
        rcases hy with he | ⟨b', o', rfl, _, _, hc'⟩
        · rw [hN.out, he] at hkl; simp at hkl
        have h1 := hc k hkl
        have h2 := hc' k (by rw [← hN.out]; exact hkl)
        have hs := hide (ints_step hkl (by rw [← hN.out]; exact hkl) hd)
        have hne : xs.getD k 0 ≠ ys.getD k 0 → xs ≠ ys := fun h e => h (by rw [e])
        have hne := hide hne
        clear hc hc' hd
        generalize xs.getD k 0 = x at *
        generalize ys.getD k 0 = y at *
        by_cases hxy : x = y
        · subst hxy
          go_wp2
          go_quiet (fail)
          go_wp2
          go_roundw
          case rel => exact ⟨k + 1, hkl, by go_num, hs.out trivial, _, rfl⟩
          case measure => (simp [intOf]; omega)
        · have hrf : r = false := by rw [hr.out]; exact beq_eq_false_iff_ne.2 (hne.out hxy)
          subst hrf
          have hb : (x == y) = false := beq_eq_false_iff_ne.2 hxy
          go_wp2
          go_quiet (fail)
          go_wp2
          go_ret
          exact ⟨rfl, _, World.drewN_drewN _ _ _⟩
      · have hkn : k = xs.length := by omega
        have hrt : r = true := by
          rw [hr.out, beq_iff_eq]
          rw [hkn, List.take_length] at hd
          rw [hd, hN.out, List.take_length]
        subst hrt hkn
        go_wp2
        go_ret
        exact ⟨rfl, q, rfl⟩
  · have : (xs == ys) = false := beq_eq_false_iff_ne.2 (fun e => hn (by rw [e]))
    rw [this]
    have hq : ((xs.length : Int) == (ys.length : Int)) = false := by simp; omega
    go_enter Tryz.func12, Tryz.ntmps12
    go_wp2
    go_ret
    exact ⟨rfl, 0, rfl⟩
end Nt

end Go.Proofs.YtfdeiejphlaokaaGreatDoor

namespace Go.Proofs.YtfdeiejphlaokaaGreatDoor

open Go.ChangeShapes Go.RowKit

open Go.Maps (Keyed)

open Go.ChangeMaps Go.MapKept Go.WideMaps

namespace Nt
set_option maxRecDepth 100000
set_option linter.unusedSimpArgs false
set_option linter.unusedVariables false

theorem itoa_t (k : Nat) (hk : k < 100) (w : World) : Calls Tryz.prog 47 #[.int .i64 (k : Int)] w fun e w' => e = .returned (.string ⟨(Lib.decDigits k).toArray⟩) ∧ w = w' := by
  have h1 : Calls Tryz.prog 73 #[.int .i64 (k : Int), .int .i64 10] w fun e w' => e = .returned (.string ⟨(Lib.decDigits k).toArray⟩) ∧ w = w' := by
    have hs := Tryz.internal_strconv_small k hk w
    have hk0 : (0 : Int) ≤ (k : Int) := by omega
    generalize (Lib.decDigits k).toArray = d at *
    go_enter Tryz.func73, Tryz.ntmps73
    go_wp2_with (go_at_call 84; refine hs.mono ?_; rintro e w' ⟨rfl, rfl⟩)
    go_ret
    exact ⟨rfl, rfl⟩
  have h2 : Calls Tryz.prog 62 #[.int .i64 (k : Int)] w fun e w' => e = .returned (.string ⟨(Lib.decDigits k).toArray⟩) ∧ w = w' := by
    generalize (Lib.decDigits k).toArray = d at *
    go_enter Tryz.func62, Tryz.ntmps62
    go_wp2_with (go_at_call 73; refine h1.mono ?_; rintro e w' ⟨rfl, rfl⟩)
    go_ret
    exact ⟨rfl, rfl⟩
  generalize (Lib.decDigits k).toArray = d at *
  go_enter Tryz.func47, Tryz.ntmps47
  go_wp2_with (go_at_call 62; refine h2.mono ?_; rintro e w' ⟨rfl, rfl⟩)
  go_ret
  exact ⟨rfl, rfl⟩

/-- The name that is tried first. -/
def frs (k : Nat) : ByteArray := ⟨#[124]⟩ ++ ⟨(Lib.decDigits k).toArray⟩
theorem frs_list (k : Nat) : (frs k).data.toList = 124 :: Lib.decDigits k := by
  unfold frs
  simp
theorem frs_size (k : Nat) (hk : k < 100) : (frs k).size = (Lib.decDigits k).length + 1 ∧ 1 ≤ (Lib.decDigits k).length ∧ (Lib.decDigits k).length ≤ 2 := by
  refine ⟨?_, ?_⟩
  · have := congrArg List.length (frs_list k)
    simpa using this
  · by_cases h : k < 10
    · rw [Lib.decDigits_one h]; simp
    · rw [Lib.decDigits_two h hk]; simp

section

variable {X : List Nat} {B0 : Nat} {w0 w : World} {q N : Nat} {so fu : List (ByteArray × Nat)} {ty : List Fn} {ns : List Nd}
def usedB (ns : List Nd) (s : ByteArray) : Bool := ns.any fun n => n.op == 12 && n.nm.data.toList == s.data.toList
theorem zeroU (w : World) : (zeroValue 113).run Tryz.prog w = .ok (.agg #[]) w := by kernel_rfl

set_option maxHeartbeats 2000000 in
theorem unused_t (h : Tt X B0 w0 w q N so fu ty ns) (hN : N ≤ 100000) (hlen : ns.length < 100) (hfree : usedB ns (frs ns.length) = false) (hno : hasB fu (frs ns.length) = false) :
    Calls Tryz.prog 27 #[.pointer (some ⟨q, 0, none⟩)] w fun ee w' => ee = .returned (.string (frs ns.length)) ∧ Below w.heap.size w w' := by
  obtain ⟨p, T, v, m1, m2, h1, h2, h3⟩ := h
  obtain ⟨A, c, rfl, hv⟩ := h1.vw (by omega)
  have hsl := hv.sl
  have a3 : w.cell? ⟨q, 3, none⟩ = some (.map m2) := h1.bk.cell rfl
  have a0 : ∀ W, Below w.heap.size w W → W.cell? ⟨q, 0, none⟩ = some (.pointer (some ⟨p, 0, none⟩)) := fun W hb => (h1.next hb).bk.cell rfl
  obtain ⟨z1, z2, z3⟩ := frs_size ns.length hlen
  have hsz : (frs ns.length).size ≤ 200 := by omega
  have hkey : keyOf Tryz.prog 9 (.string (frs ns.length)) = some (kl (frs ns.length)) := keyOf_string_mk Tryz.underlying9 (by unfold maxLen; omega)
  have hlook : (Instr.lookup 73 (.map m2) (.string (frs ns.length)) true).run Tryz.prog w = .ok (.tuple #[.agg #[], .bool false]) w := by
    rcases h1.mp with ⟨_, rfl, _⟩ | ⟨a1, D1, a2, D2, _, rfl, w1, k1, w2, k2⟩
    · exact Maps.look_nil true lawS Tryz.underlying73 (zeroU w) hkey
    · obtain ⟨vv, ps, hrun, hv⟩ := w2.look_ok lawS Tryz.underlying73 (zeroU w) unitElem_mk hkey
      obtain ⟨rfl, _⟩ := unitElem_inv hv
      rw [k2.has] at hrun
      unfold usedB at hfree
      rw [hfree] at hrun
      exact hrun
  have hfind := fun W (hb : Below w.heap.size w W) => tw_find_no (h2.next hb) (frs ns.length) (by unfold maxLen; omega) hno
  have hit := itoa_t ns.length hlen w
  have hcat : (⟨#[124]⟩ : ByteArray) ++ ⟨(Lib.decDigits ns.length).toArray⟩ = frs ns.length := rfl
  have hsum : (⟨#[124]⟩ : ByteArray).size + (⟨(Lib.decDigits ns.length).toArray⟩ : ByteArray).size ≤ 1000 := by
    show 1 + (Lib.decDigits ns.length).toArray.size ≤ 1000
    rw [List.size_toArray]; omega
  have hbA : ∀ o, Below w.heap.size w (w.alloc o) := fun o => bel_al w o
  have hbB : ∀ o w1, Below (w.alloc o).heap.size (w.alloc o) w1 → ∀ o', Below w.heap.size w (w1.alloc o') := fun o w1 hb o' => ((bel_al w o).trans (hb.mono (by simp))).trans ((bel_al w1 o').mono (Nat.le_trans (by simp) hb.size))
  generalize frs ns.length = s at *
  generalize hd : (⟨(Lib.decDigits ns.length).toArray⟩ : ByteArray) = d at *
  generalize ns.length = n at *
  replace a0 := hide a0; replace hfind := hide hfind; replace hbA := hide hbA; replace hbB := hide hbB; replace hd := hide hd
  clear h1 h2 h3 hv hno hfree hkey z1 z2 z3
  go_enter Tryz.func27, Tryz.ntmps27
  go_wp2
  go_loop [3] (fun i => i = .int .i64 (n : Int)) (fun i => 0)
  case atStart => rfl
  case round =>
    subst hrel
    go_wp2_with (first
      | (go_at_call 47; (with_reducible refine hit.mono ?_); rintro ee w' ⟨rfl, rfl⟩; have b0 := a0.out _ (hbA.out (.cells #[] 113)))
      | (go_at_call 48; (with_reducible refine (hfind.out _ (hbA.out _)).mono ?_); rintro ee w1 ⟨rfl, hb1⟩; replace hb1 := hide (hbB.out _ _ hb1 (.cells #[.string ⟨#[]⟩, .slice none 0 0, .int .i64 0] 65))))
    go_ret
    exact ⟨rfl, hb1.out⟩

/-- Which sorts are there. -/
theorem name_t (p : Nat) (h : Tw X B0 w0 w p 1000 0 so fu ty) (x : Int) : Calls Tryz.prog 25 #[.pointer (some ⟨p, 0, none⟩), .int .i64 x] w fun e w' => (∃ s, e = .returned (.tuple #[.string s, .bool (knownB so.length x)])) ∧ w = w' := by
  by_cases hk : knownB so.length x = true
  · have hk' := hk
    simp only [knownB, Bool.and_eq_true, decide_eq_true_eq] at hk'
    rw [hk]
    obtain ⟨T, ⟨⟨v1, m1, v2, m2, v3, h1⟩, _⟩, _⟩ := id h
    have hform1 : ∃ A c, v1 = .slice A so.length c := by
      rcases h1.sS.row.2 with ⟨e, h⟩ | ⟨g, cap, cu, e, _⟩
      · exact ⟨none, 0, by rw [e, h]⟩
      · exact ⟨_, _, e⟩
    obtain ⟨A1, k1, rfl⟩ := hform1
    have hkn := known_any p so.length k1 A1 x w (h1.bk.cell rfl) (Nat.le_trans h1.sS.le (by decide))
    rw [hk] at hkn
    rcases Int.lt_or_le x 2 with hx | hx
    · have hx2 : x = 0 ∨ x = 1 := by omega
      clear h h1 hk
      rcases hx2 with rfl | rfl
      · go_enter Tryz.func25, Tryz.ntmps25
        go_wp2_with (go_at_call 43; (with_reducible refine hkn.mono ?_); rintro e w' ⟨rfl, rfl⟩)
        go_ret2
        exact ⟨⟨_, rfl⟩, rfl⟩
      · go_enter Tryz.func25, Tryz.ntmps25
        go_wp2_with (go_at_call 43; (with_reducible refine hkn.mono ?_); rintro e w' ⟨rfl, rfl⟩)
        go_ret2
        exact ⟨⟨_, rfl⟩, rfl⟩
    · obtain ⟨i, rfl⟩ : ∃ i : Nat, x = (i : Int) + 2 := ⟨(x - 2).toNat, by omega⟩
      exact (tw_name h (by decide) i (by omega)).mono fun e w' ⟨he, hw⟩ => ⟨⟨_, he⟩, hw⟩
  · have hk : knownB so.length x = false := by simpa using hk
    rw [hk]
    obtain ⟨T, ⟨⟨v1, m1, v2, m2, v3, h1⟩, _⟩, _⟩ := id h
    have hform1 : ∃ A c, v1 = .slice A so.length c := by
      rcases h1.sS.row.2 with ⟨e, h⟩ | ⟨g, cap, cu, e, _⟩
      · exact ⟨none, 0, by rw [e, h]⟩
      · exact ⟨_, _, e⟩
    obtain ⟨A1, k1, rfl⟩ := hform1
    have hkn := known_any p so.length k1 A1 x w (h1.bk.cell rfl) (Nat.le_trans h1.sS.le (by decide))
    rw [hk] at hkn
    clear h h1 hk
    go_enter Tryz.func25, Tryz.ntmps25
    go_wp2_with (go_at_call 43; (with_reducible refine hkn.mono ?_); rintro e w' ⟨rfl, rfl⟩)
    go_ret2
    exact ⟨⟨_, rfl⟩, rfl⟩

theorem Tt.p0 (h : Tt X B0 w0 w q N so fu ty ns) : ∃ p, w.cell? ⟨q, 0, none⟩ = some (.pointer (some ⟨p, 0, none⟩)) ∧ Calls Tryz.prog 25 #[.pointer (some ⟨p, 0, none⟩), .int .i64 0] w (fun e w' => True) := by
  obtain ⟨p, T, v, m1, m2, h1, h2, h3⟩ := h
  exact ⟨p, h1.bk.cell rfl, (name_t p (h2.less (Y := T ++ X) (fun b hb => hb)) 0).mono fun _ _ _ => trivial⟩

set_option maxHeartbeats 1000000 in
theorem fresh_no (h : Tt X B0 w0 w q N so fu ty ns) (x : Int) (hx : knownB so.length x = false) : Calls Tryz.prog 10 #[.pointer (some ⟨q, 0, none⟩), .int .i64 x] w fun e w' => e = .returned (.tuple #[.int .i64 0, .int .i64 1]) ∧ w = w' := by
  obtain ⟨p, T, v, m1, m2, h1, h2, h3⟩ := h
  have a0 : w.cell? ⟨q, 0, none⟩ = some (.pointer (some ⟨p, 0, none⟩)) := h1.bk.cell rfl
  have hn := name_t p h2 x
  rw [hx] at hn
  clear h1 h2 h3
  go_enter Tryz.func10, Tryz.ntmps10
  go_wp2_with (go_at_call 25; (with_reducible refine hn.mono ?_); rintro e w' ⟨⟨s, rfl⟩, rfl⟩)
  go_ret2
  exact ⟨rfl, rfl⟩

set_option maxHeartbeats 2000000 in
theorem fresh_t (h : Tt X B0 w0 w q N so fu ty ns) (x : Int) (hx : knownB so.length x = true) (hsl : so.length ≤ 1000) (hN : N ≤ 100000) (hlen : ns.length < 100) (hfree : usedB ns (frs ns.length) = false) (hno : hasB fu (frs ns.length) = false) (hnew : ∀ m ∈ ns, kvl m ≠ kvl ⟨12, frs ns.length, false, [], [], [], x, 0⟩) :
    Calls Tryz.prog 10 #[.pointer (some ⟨q, 0, none⟩), .int .i64 x] w fun e w' => e = .returned (.tuple #[.int .i64 (ns.length : Int), .int .i64 0]) ∧ Tt X B0 w0 w' q (N + 1) so fu ty (ns ++ [⟨12, frs ns.length, false, [], [], [], x, 0⟩]) ∧ Same X w w' := by
  have hu := unused_t h hN hlen hfree hno
  obtain ⟨z1, z2, z3⟩ := frs_size ns.length hlen
  have hx' := hx
  simp only [knownB, Bool.and_eq_true, decide_eq_true_eq] at hx'
  have hput : ∀ W, Below w.heap.size w W → Calls Tryz.prog 26 #[.pointer (some ⟨q, 0, none⟩), .agg #[.int .i64 12, .string (frs ns.length), .bool false, .slice none 0 0, .slice none 0 0, .slice none 0 0, .int .i64 x]] W fun e w' => e = .returned (.tuple #[.int .i64 (ns.length : Int), .int .i64 0]) ∧ Tt X B0 w0 w' q (N + 1) so fu ty (ns ++ [⟨12, frs ns.length, false, [], [], [], x, 0⟩]) ∧ Same X w w' := fun W hb =>
    (tt_put (h.next hb) 12 (frs ns.length) false [] [] [] x none none none 0 0 0 .nil .nil .nil (by simp) (by simp) ⟨(show (1 : Int) ≤ 12 ∧ (12 : Int) ≤ 20 from by decide), (show (frs ns.length).size ≤ 200 from by omega), by simp, by simp, by simp, ⟨hx'.1, (show x ≤ 100000000 from by omega)⟩, (show 0 ≤ wOf ns 12 [] [] ∧ wOf ns 12 [] [] ≤ 2 from by rw [show wOf ns 12 [] [] = 0 from rfl]; decide)⟩ (by simp) hnew hN (by omega) (by decide)).mono fun e w' ⟨h1, h2, h3⟩ => ⟨h1, h2, (Same.of_below hb (fun b hb => h.lt hb)).trans h3⟩
  obtain ⟨p, T, v, m1, m2, h1, h2, h3⟩ := h
  have a0 : w.cell? ⟨q, 0, none⟩ = some (.pointer (some ⟨p, 0, none⟩)) := h1.bk.cell rfl
  have hn := name_t p h2 x
  rw [hx] at hn
  replace hput := hide hput
  replace hu := hide hu
  clear h1 h2 h3 hnew hfree hno hx hx' z1 z2 z3
  generalize frs ns.length = s at *
  go_enter Tryz.func10, Tryz.ntmps10
  go_wp2_with (first
    | (go_at_call 25; (with_reducible refine hn.mono ?_); rintro e w' ⟨⟨s', rfl⟩, rfl⟩)
    | (go_at_call 27; (with_reducible refine hu.out.mono ?_); rintro e w1 ⟨rfl, hb1⟩; replace hb1 := hide hb1)
    | (go_at_call 26; (with_reducible refine (hput.out _ hb1.out).mono ?_); rintro e w2 ⟨rfl, ht, hs⟩; replace ht := hide ht; replace hs := hide hs))
  go_ret2
  exact ⟨rfl, ht.out, hs.out⟩
end

end Nt

end Go.Proofs.YtfdeiejphlaokaaGreatDoor

namespace Go.Proofs.YtfdeiejphlaokaaGreatDoor

open Go.ChangeShapes Go.RowKit

namespace Nt
set_option maxRecDepth 100000
set_option linter.unusedSimpArgs false
set_option linter.unusedVariables false

def dcl : List Fn := [⟨⟨#[120]⟩, [], 1⟩, ⟨⟨#[121]⟩, [], 1⟩, ⟨⟨#[122]⟩, [], 1⟩, ⟨⟨#[112]⟩, [], 0⟩, ⟨⟨#[113]⟩, [], 0⟩, ⟨⟨#[97]⟩, [], 2⟩, ⟨⟨#[98]⟩, [], 2⟩, ⟨⟨#[102]⟩, [1], 1⟩, ⟨⟨#[103]⟩, [2, 1], 2⟩, ⟨⟨#[104]⟩, [2], 0⟩]
/-- The list of what is to be declared: its row g, within the blocks G. -/
def Dl (G : List Nat) (W : World) (g : Nat) : Prop := ∀ i (h : i < dcl.length), ∃ A c, W.cell? ⟨g, i * 3, none⟩ = some (.string dcl[i].nm) ∧ W.cell? ⟨g, i * 3 + 1, none⟩ = some (.slice A dcl[i].ar.length c) ∧ W.cell? ⟨g, i * 3 + 2, none⟩ = some (.int .i64 dcl[i].rs) ∧ Ar G W A dcl[i].ar ∧ (A = none → c = 0)
theorem Dl.same {G : List Nat} {W W' : World} {g : Nat} (h : Dl G W g) (hg : g ∈ G) (hs : Same G W W') : Dl G W' g := by
  intro i hi
  obtain ⟨A, c, h0, h1, h2, h3, h4⟩ := h i hi
  refine ⟨A, c, (World.cell?_of_block (hs g hg)).trans h0, (World.cell?_of_block (hs g hg)).trans h1, (World.cell?_of_block (hs g hg)).trans h2, ?_, h4⟩
  rcases h3 with h3 | ⟨b, o, e, hb, hc⟩
  · exact .inl h3
  · exact .inr ⟨b, o, e, hb, fun j hj => (World.cell?_of_block (a := ⟨b, o + j, none⟩) (hs b hb)).trans (hc j hj)⟩

set_option maxHeartbeats 2000000 in
theorem declared_t (w : World) : Calls Tryz.prog 21 #[] w fun e w' => e = .returned (.slice (some ⟨w.heap.size + 3, 0, none⟩) 10 10) ∧ Dl [w.heap.size, w.heap.size + 1, w.heap.size + 2, w.heap.size + 3] w' (w.heap.size + 3) ∧ w.heap.size + 3 < w'.heap.size ∧ Below w.heap.size w w' := by
  obtain ⟨w1, h1⟩ : ∃ W, W = w.alloc (.cells #[.int .i64 1] 3) := ⟨_, rfl⟩
  obtain ⟨w2, h2⟩ : ∃ W, W = w1.alloc (.cells #[.int .i64 2, .int .i64 1] 3) := ⟨_, rfl⟩
  obtain ⟨w3, h3⟩ : ∃ W, W = w2.alloc (.cells #[.int .i64 2] 3) := ⟨_, rfl⟩
  obtain ⟨w4, h4⟩ : ∃ W, W = w3.alloc (.cells #[.string ⟨#[120]⟩, .slice none 0 0, .int .i64 1, .string ⟨#[121]⟩, .slice none 0 0, .int .i64 1, .string ⟨#[122]⟩, .slice none 0 0, .int .i64 1, .string ⟨#[112]⟩, .slice none 0 0, .int .i64 0, .string ⟨#[113]⟩, .slice none 0 0, .int .i64 0, .string ⟨#[97]⟩, .slice none 0 0, .int .i64 2, .string ⟨#[98]⟩, .slice none 0 0, .int .i64 2, .string ⟨#[102]⟩, .slice (some ⟨w.heap.size, 0, none⟩) 1 1, .int .i64 1, .string ⟨#[103]⟩, .slice (some ⟨w.heap.size + 1, 0, none⟩) 2 2, .int .i64 2, .string ⟨#[104]⟩, .slice (some ⟨w.heap.size + 2, 0, none⟩) 1 1, .int .i64 0] 65) := ⟨_, rfl⟩
  have s1 : w1.heap.size = w.heap.size + 1 := by rw [h1]; simp
  have s2 : w2.heap.size = w.heap.size + 2 := by rw [h2]; simp [s1]
  have s3 : w3.heap.size = w.heap.size + 3 := by rw [h3]; simp [s2]
  have s4 : w4.heap.size = w.heap.size + 4 := by rw [h4]; simp [s3]
  have b1 : Bk w.heap.size #[.int .i64 1] 3 w4 := by
    rw [h4, h3, h2, h1]; exact (((Bk.new _ _ w).al _).al _).al _
  have b2 : Bk (w.heap.size + 1) #[.int .i64 2, .int .i64 1] 3 w4 := by
    rw [h4, h3, h2, ← s1]; exact ((Bk.new _ _ w1).al _).al _
  have b3 : Bk (w.heap.size + 2) #[.int .i64 2] 3 w4 := by
    rw [h4, h3, ← s2]; exact (Bk.new _ _ w2).al _
  have b4 := Bk.new #[.string ⟨#[120]⟩, .slice none 0 0, .int .i64 1, .string ⟨#[121]⟩, .slice none 0 0, .int .i64 1, .string ⟨#[122]⟩, .slice none 0 0, .int .i64 1, .string ⟨#[112]⟩, .slice none 0 0, .int .i64 0, .string ⟨#[113]⟩, .slice none 0 0, .int .i64 0, .string ⟨#[97]⟩, .slice none 0 0, .int .i64 2, .string ⟨#[98]⟩, .slice none 0 0, .int .i64 2, .string ⟨#[102]⟩, .slice (some ⟨w.heap.size, 0, none⟩) 1 1, .int .i64 1, .string ⟨#[103]⟩, .slice (some ⟨w.heap.size + 1, 0, none⟩) 2 2, .int .i64 2, .string ⟨#[104]⟩, .slice (some ⟨w.heap.size + 2, 0, none⟩) 1 1, .int .i64 0] 65 w3
  rw [s3, ← h4] at b4
  have hb : Below w.heap.size w w4 := by
    rw [h4, h3, h2, h1]
    exact (((bel_al w _).alloc (by simp) _).alloc (by simp; omega) _).alloc (by simp; omega) _
  have key : Dl [w.heap.size, w.heap.size + 1, w.heap.size + 2, w.heap.size + 3] w4 (w.heap.size + 3) := by
    intro i hi
    have hi' : i < 10 := hi
    match i, hi' with
    | 0, _ => exact ⟨_, _, b4.cell rfl, b4.cell rfl, b4.cell rfl, .inl rfl, fun _ => rfl⟩
    | 1, _ => exact ⟨_, _, b4.cell rfl, b4.cell rfl, b4.cell rfl, .inl rfl, fun _ => rfl⟩
    | 2, _ => exact ⟨_, _, b4.cell rfl, b4.cell rfl, b4.cell rfl, .inl rfl, fun _ => rfl⟩
    | 3, _ => exact ⟨_, _, b4.cell rfl, b4.cell rfl, b4.cell rfl, .inl rfl, fun _ => rfl⟩
    | 4, _ => exact ⟨_, _, b4.cell rfl, b4.cell rfl, b4.cell rfl, .inl rfl, fun _ => rfl⟩
    | 5, _ => exact ⟨_, _, b4.cell rfl, b4.cell rfl, b4.cell rfl, .inl rfl, fun _ => rfl⟩
    | 6, _ => exact ⟨_, _, b4.cell rfl, b4.cell rfl, b4.cell rfl, .inl rfl, fun _ => rfl⟩
    | 7, _ =>
      refine ⟨_, _, b4.cell rfl, b4.cell rfl, b4.cell rfl, .inr ⟨_, _, rfl, by simp, fun j hj => ?_⟩, fun h => by cases h⟩
      have : j = 0 := by have : j < 1 := hj; omega
      subst this
      exact b1.cell rfl
    | 8, _ =>
      refine ⟨_, _, b4.cell rfl, b4.cell rfl, b4.cell rfl, .inr ⟨_, _, rfl, by simp, fun j hj => ?_⟩, fun h => by cases h⟩
      have : j = 0 ∨ j = 1 := by have : j < 2 := hj; omega
      rcases this with rfl | rfl
      · exact b2.cell rfl
      · exact b2.cell rfl
    | 9, _ =>
      refine ⟨_, _, b4.cell rfl, b4.cell rfl, b4.cell rfl, .inr ⟨_, _, rfl, by simp, fun j hj => ?_⟩, fun h => by cases h⟩
      have : j = 0 := by have : j < 1 := hj; omega
      subst this
      exact b3.cell rfl
  have hend := hide (And.intro key (And.intro (show w.heap.size + 3 < w4.heap.size by omega) hb))
  rw [h4, h3, h2, h1] at hend
  clear key hb b1 b2 b3 b4 s1 s2 s3 s4 h1 h2 h3 h4
  go_enter Tryz.func21, Tryz.ntmps21
  go_wp2
  go_ret
  exact ⟨rfl, hend.out⟩

/-- The two, side by side; the blocks of X stand beside. -/
structure Jd (X : List Nat) (B : Nat) (w0 w : World) (p r k : Nat) (so fu : List (ByteArray × Nat)) (ty : List Fn) (nm : List ByteArray) (fs : List Fn) (T : List Nat) : Prop where
  tb : Tb (r :: X) w p T k 0 so fu ty
  rf : ∃ AN cN AF cF vL, RfP T w r [r] nm fs [] AN cN AF cF vL
  tB : ∀ b ∈ T, B ≤ b
  rB : B ≤ r
  sz : B ≤ w.heap.size
  bl : Below B w0 w
  rX : r ∉ X
section

variable {X : List Nat} {B : Nat} {w0 w w' : World} {p r k : Nat} {so fu : List (ByteArray × Nat)} {ty : List Fn} {nm : List ByteArray} {fs : List Fn} {T : List Nat}
theorem Jd.code (h : Jd X B w0 w p r k so fu ty nm fs T) {T' : List Nat} {k' : Nat} {so' fu' : List (ByteArray × Nat)} {ty' : List Fn} (ht : Tb (r :: X) w' p T' k' 0 so' fu' ty') (hO : Off T w w') (hT : ∀ b ∈ T', b ∈ T ∨ w.heap.size ≤ b) : Jd X B w0 w' p r k' so' fu' ty' nm fs T' ∧ Same X w w' := by
  obtain ⟨AN, cN, AF, cF, vL, hr⟩ := h.rf
  exact ⟨⟨ht, ⟨AN, cN, AF, cF, vL, hr.off hO (fun b hb => .inl hb) hT⟩, fun b hb => (hT b hb).elim (h.tB b) (fun h' => Nat.le_trans h.sz h'), h.rB, Nat.le_trans h.sz hO.size, h.bl.trans (hO.below h.sz h.tB), h.rX⟩, fun b hb => hO.block b (h.tb.xs b (List.mem_cons_of_mem _ hb)).1 (h.tb.xs b (List.mem_cons_of_mem _ hb)).2⟩
theorem Jd.ref (h : Jd X B w0 w p r k so fu ty nm fs T) {nm' : List ByteArray} {fs' : List Fn} (hr : ∃ AN cN AF cF vL, RfP T w' r [r] nm' fs' [] AN cN AF cF vL) (hO : Off [r] w w') : Jd X B w0 w' p r k so fu ty nm' fs' T ∧ Same X w w' := by
  obtain ⟨⟨v1, m1, v2, m2, v3, h1⟩, hn⟩ := h.tb
  have hd : ∀ b ∈ T, b ∉ [r] := fun b hb hm => by
    simp at hm
    subst hm
    exact (h.tb.xs b (by simp)).2 hb
  have hT := h1.eT
  obtain ⟨xs, hx, hF⟩ := h1.tS
  have s0 : p ∈ T := by rw [hT]; simp
  have s1 : ∀ k ∈ bks v1 m1, k ∈ T := fun k hk => by rw [hT]; exact List.mem_cons_of_mem _ (List.mem_append_left _ hk)
  have s2 : ∀ k ∈ bks v2 m2, k ∈ T := fun k hk => by rw [hT]; exact List.mem_cons_of_mem _ (List.mem_append_right _ (List.mem_append_left _ hk))
  have s3 : ∀ k, v3.ownBlock = some k → k ∈ T := fun k hk => by rw [hT]; exact List.mem_cons_of_mem _ (List.mem_append_right _ (List.mem_append_right _ (by rw [Option.mem_toList]; exact hk)))
  have htb : Tb (r :: X) w' p T k 0 so fu ty := ⟨⟨v1, m1, v2, m2, v3, h1.bk.off hO (hd _ s0), h1.sS.off hO (fun k hk => hd k (s1 k hk)) (Nat.le_refl _), h1.fS.off hO (fun k hk => hd k (s2 k hk)) (Nat.le_refl _), ⟨xs, Off.row hx hO (fun k hk => hd k (s3 k hk)), Fs.off hO (fun b hb => .inl (by simp at hb; subst hb; simp)) (fun b hb => .inl hb) hF⟩, h1.eT, h1.once, xs_off h1.xs hO.size (fun b hb => .inl hb)⟩, hn⟩
  exact ⟨⟨htb, hr, h.tB, h.rB, Nat.le_trans h.sz hO.size, h.bl.trans (hO.below h.sz (by intro b hb; simp at hb; subst hb; exact h.rB)), h.rX⟩, fun b hb => hO.block b (h.tb.xs b (List.mem_cons_of_mem _ hb)).1 (fun hm => by simp at hm; subst hm; exact h.rX hb)⟩
theorem Jd.turn {Y : List Nat} (h : Jd X B w0 w p r k so fu ty nm fs T) (hb : Below w.heap.size w w') (hY : ∀ b ∈ Y, (b ∈ X ∨ w.heap.size ≤ b) ∧ b < w'.heap.size) : Jd Y B w0 w' p r k so fu ty nm fs T := by
  obtain ⟨AN, cN, AF, cF, vL, hr⟩ := h.rf
  obtain ⟨⟨v1, m1, v2, m2, v3, h1⟩, hn⟩ := h.tb
  have h1' := h1.below hb
  obtain ⟨xs, hx, hF⟩ := h1.tS
  have hO := Off.of_below hb []
  have hrl := (h1.xs r (by simp)).1
  have htb : Tb (r :: Y) w' p T k 0 so fu ty := by
    refine ⟨⟨v1, m1, v2, m2, v3, h1'.bk, h1'.sS, h1'.fS, ⟨xs, Off.row hx hO (by simp), Fs.off hO (by simp) (fun b hb => ?_) hF⟩, h1'.eT, h1'.once, fun b hb => ⟨?_, fun hm => ?_⟩⟩, hn⟩
    · rcases List.mem_append.1 hb with hb | hb
      · exact .inl (List.mem_append_left _ hb)
      · rcases List.mem_cons.1 hb with rfl | hb
        · exact .inl (by simp)
        · exact (hY b hb).1.imp (fun hx => List.mem_append_right _ (List.mem_cons_of_mem _ hx)) id
    · rcases List.mem_cons.1 hb with rfl | hb'
      · exact Nat.lt_of_lt_of_le hrl hO.size
      · exact (hY b hb').2
    · rcases List.mem_cons.1 hb with rfl | hb'
      · exact (h1.xs b (by simp)).2 hm
      · rcases (hY b hb').1 with hx | hx
        · exact (h1.xs b (List.mem_cons_of_mem _ hx)).2 hm
        · exact Nat.not_lt.2 hx (h1.lt b hm)
  exact ⟨htb, ⟨AN, cN, AF, cF, vL, hr.next hb⟩, h.tB, h.rB, Nat.le_trans h.sz hb.size, h.bl.trans (hb.mono h.sz), fun hm => (hY r hm).1.elim h.rX (fun hle => Nat.not_lt.2 hle hrl)⟩
theorem Jd.tw (h : Jd X B w0 w p r k so fu ty nm fs T) (hk : k ≤ 1000) : Tw X B w0 w p 1000 0 so fu ty := by
  have ht : Tw (r :: X) B w0 w p k 0 so fu ty := ⟨T, h.tb, h.tB, h.bl, h.sz⟩
  exact (ht.mono hk).less (fun b hb => List.mem_cons_of_mem _ hb)
end

/-- What is told of each one that is declared. -/
theorem dcl_ok : ∀ i : _root_.Fin 10, freeB ((dcl.take i).map fun f => (f.nm, 0)) (dcl.getD i ⟨⟨#[]⟩, [], 0⟩).nm = true ∧ typedB 1 (dcl.getD i ⟨⟨#[]⟩, [], 0⟩).ar (dcl.getD i ⟨⟨#[]⟩, [], 0⟩).rs = true ∧ nameB (dcl.getD i ⟨⟨#[]⟩, [], 0⟩).nm = true ∧
    (dcl.getD i ⟨⟨#[]⟩, [], 0⟩).nm.size = 1 ∧ (dcl.take i).all (fun f => f.nm.data.toList != (dcl.getD i ⟨⟨#[]⟩, [], 0⟩).nm.data.toList) = true := by decide
end Nt

end Go.Proofs.YtfdeiejphlaokaaGreatDoor

namespace Go.Proofs.YtfdeiejphlaokaaGreatDoor

open Go.ChangeShapes Go.RowKit

namespace Nt
set_option maxRecDepth 100000
set_option linter.unusedSimpArgs false
set_option linter.unusedVariables false

def nmU : ByteArray := ⟨#[85]⟩
def so0 : List (ByteArray × Nat) := [(nmU, 0)]
def fuN (i : Nat) : List (ByteArray × Nat) := (dcl.take i).map fun f => (f.nm, 0)
theorem dcl_len : dcl.length = 10 := rfl
theorem take_next {i : Nat} (h : i < dcl.length) : dcl.take (i + 1) = dcl.take i ++ [dcl[i]] := by
  rw [List.take_add_one, List.getElem?_eq_getElem h]; rfl
theorem fuN_next {i : Nat} (h : i < dcl.length) : fuN (i + 1) = fuN i ++ [(dcl[i].nm, 0)] := by
  unfold fuN
  rw [take_next h, List.map_append]
  rfl
theorem dcl_at {i : Nat} (h : i < dcl.length) : freeB (fuN i) dcl[i].nm = true ∧ typedB 1 dcl[i].ar dcl[i].rs = true ∧ nameB dcl[i].nm = true ∧ dcl[i].nm.size = 1 ∧ ∀ j (h2 : j < (dcl.take i).length), (dcl.take i)[j].nm.data.toList ≠ dcl[i].nm.data.toList := by
  obtain ⟨h1, h2, h3, h4, h5⟩ := dcl_ok ⟨i, h⟩
  have e : dcl.getD i ⟨⟨#[]⟩, [], 0⟩ = dcl[i] := by simp [List.getD, List.getElem?_eq_getElem h]
  simp only [e] at h1 h2 h3 h4 h5
  refine ⟨h1, h2, h3, h4, fun j h2 => ?_⟩
  rw [List.all_eq_true] at h5
  simpa using h5 _ (List.getElem_mem h2)

theorem Jd.start {w w1 : World} {p : Nat} (h : Tb [] w1 p [p] 0 0 [] [] []) (hp : w.heap.size ≤ p) (hb : Below w.heap.size w w1) :
    Jd [] w.heap.size w (w1.alloc (.cells #[.slice none 0 0, .slice none 0 0, .slice none 0 0] 58)) p w1.heap.size 0 [] [] [] [] [] [p] := by
  have hlt := h.lt
  obtain ⟨⟨v1, m1, v2, m2, v3, h1⟩, hn⟩ := h
  have hb1 := bel_al w1 (.cells #[.slice none 0 0, .slice none 0 0, .slice none 0 0] 58)
  have h1' := h1.below hb1
  obtain ⟨xs, hx, hF⟩ := h1.tS
  have hO := Off.of_below hb1 []
  have hpl := hlt p (by simp)
  refine ⟨⟨⟨v1, m1, v2, m2, v3, h1'.bk, h1'.sS, h1'.fS, ⟨xs, Off.row hx hO (by simp), Fs.off hO (by simp) (fun b hb => ?_) hF⟩, h1'.eT, h1'.once, fun b hb => ?_⟩, hn⟩, ⟨none, 0, none, 0, .slice none 0 0, Bk.new _ _ _, ⟨Nat.le_refl _, Nat.zero_le _, fun _ => rfl⟩, ⟨Nat.le_refl _, Nat.zero_le _, fun _ => rfl⟩, .inl rfl, ⟨[], .inl rfl, rfl⟩, World.ownsRow_nil _ _ _ _, rfl, by simp, ?_⟩, ?_, hb.size, Nat.le_trans hb.size (by simp), hb.trans (hb1.mono hb.size), by simp⟩
  · simp at hb
    rcases hb with rfl | rfl
    · exact .inl (by simp)
    · exact .inr (Nat.le_refl _)
  · simp at hb
    subst hb
    exact ⟨by simp, by simp; omega⟩
  · intro b hb hm
    simp at hb hm
    omega
  · intro b hb; simp at hb; subst hb; exact hp

set_option maxHeartbeats 8000000 in
theorem tables_t (w : World) : Calls Tryz.prog 7 #[] w fun e w' => ∃ q z, e = .returned (.tuple #[.pointer (some ⟨q, 0, none⟩), .pointer (some ⟨z, 0, none⟩)]) ∧ Tt [] w.heap.size w w' q 0 so0 (fuN 10) dcl [] := by
  obtain ⟨B, hB⟩ : ∃ B, B = w.heap.size := ⟨_, rfl⟩
  have c0 : Calls Tryz.prog 18 #[] w fun e w' => e = .returned (.pointer (some ⟨w.heap.size, 0, none⟩)) ∧ Jd [] w.heap.size w (w'.alloc (.cells #[.slice none 0 0, .slice none 0 0, .slice none 0 0] 58)) w.heap.size w'.heap.size 0 [] [] [] [] [] [w.heap.size] :=
    (new_any (X := []) w (by simp)).mono fun e w' ⟨he, h1, h2⟩ => ⟨he, Jd.start h1 (Nat.le_refl _) h2⟩
  rw [← hB] at c0 ⊢
  replace c0 := hide c0
  clear hB
  have c1 : ∀ (p r : Nat) (T : List Nat) (W : World), Jd [] B w W p r 0 [] [] [] [] [] T → Calls Tryz.prog 19 #[.pointer (some ⟨p, 0, none⟩), .string ⟨#[85]⟩] W fun e w' => (∃ v, e = .returned v) ∧ ∃ T', Jd [] B w w' p r 1 so0 [] [] [] [] T' := fun p r T W h =>
    (sort_yes p T 0 0 [] [] [] ⟨#[85]⟩ W h.tb (by decide) (by decide) (by decide)).mono fun e w' ⟨he, T', t1, t2, t3⟩ => ⟨⟨_, he⟩, T', (h.code t1 t2 t3).1⟩
  have c2 : ∀ (p r : Nat) (T : List Nat) (W : World), Jd [] B w W p r 1 so0 [] [] [] [] T → Calls Tryz.prog 20 #[.pointer (some ⟨r, 0, none⟩), .string ⟨#[85]⟩] W fun e w' => (∃ v, e = .returned v) ∧ Jd [] B w w' p r 1 so0 [] [] [nmU] [] T := fun p r T W h => by
    obtain ⟨AN, cN, AF, cF, vL, hr⟩ := h.rf
    exact (ref_sort (so := []) hr h.tb.lt (by decide) ⟨#[85]⟩ (by decide) (by decide)).mono fun e w' ⟨he, ⟨AN', cN', h1⟩, h2⟩ => ⟨⟨_, he⟩, (h.ref ⟨AN', cN', AF, cF, vL, h1⟩ h2).1⟩
  have c3 : ∀ (p r : Nat) (T : List Nat) (W : World), Jd [] B w W p r 1 so0 [] [] [nmU] [] T → Calls Tryz.prog 21 #[] W fun e w' => e = .returned (.slice (some ⟨W.heap.size + 3, 0, none⟩) 10 10) ∧ ∃ G, W.heap.size + 3 ∈ G ∧ Dl G w' (W.heap.size + 3) ∧ Jd G B w w' p r 1 so0 [] [] [nmU] [] T := fun p r T W h =>
    (declared_t W).mono fun e w' ⟨he, h1, h2, h3⟩ => ⟨he, _, by simp, h1, h.turn h3 (fun b hb => by simp at hb; omega)⟩
  have c4 : ∀ (p r g i : Nat) (G T : List Nat) (W : World) (hi : i < dcl.length), Jd G B w W p r (1 + i) so0 (fuN i) (dcl.take i) [nmU] (dcl.take i) T → Dl G W g → g ∈ G → ∃ A c, W.cell? ⟨g, i * 3, none⟩ = some (.string dcl[i].nm) ∧ W.cell? ⟨g, i * 3 + 1, none⟩ = some (.slice A dcl[i].ar.length c) ∧ W.cell? ⟨g, i * 3 + 2, none⟩ = some (.int .i64 dcl[i].rs) ∧
      Calls Tryz.prog 22 #[.pointer (some ⟨p, 0, none⟩), .agg #[.string dcl[i].nm, .slice A dcl[i].ar.length c, .int .i64 dcl[i].rs]] W fun e w' => (∃ v, e = .returned v) ∧ ∃ T', Jd G B w w' p r (1 + i + 1) so0 (fuN (i + 1)) (dcl.take (i + 1)) [nmU] (dcl.take i) T' ∧ Dl G w' g := fun p r g i G T W hi h hD hg => by
    obtain ⟨A, c, k0, k1, k2, k3, k4⟩ := hD i hi
    obtain ⟨q1, q2, q3, q4, q5⟩ := dcl_at hi
    have hX : ∀ b ∈ G, b < W.heap.size ∧ b ∉ T := fun b hb => h.tb.xs b (List.mem_cons_of_mem _ hb)
    refine ⟨A, c, k0, k1, k2, (fun_yes p T (1 + i) 0 so0 (fuN i) (dcl.take i) dcl[i].nm A dcl[i].ar c dcl[i].rs W h.tb (k3.ir hX) q1 q2 (Nat.le_trans (Nat.le_of_eq q4) (by decide)) (by rw [dcl_len] at hi; omega) (by unfold fuN; rw [List.length_map, List.length_take]; rw [dcl_len] at *; omega)).mono fun e w' ⟨he, T', t1, t2, t3⟩ => ?_⟩
    obtain ⟨J, S⟩ := h.code t1 t2 t3
    rw [fuN_next hi, take_next hi]
    exact ⟨⟨_, he⟩, T', J, hD.same hg S⟩
  have c5 : ∀ (p r g i : Nat) (G T : List Nat) (W : World) (hi : i < dcl.length), Jd G B w W p r (1 + i + 1) so0 (fuN (i + 1)) (dcl.take (i + 1)) [nmU] (dcl.take i) T → Dl G W g → g ∈ G → ∃ A c, W.cell? ⟨g, i * 3, none⟩ = some (.string dcl[i].nm) ∧ W.cell? ⟨g, i * 3 + 1, none⟩ = some (.slice A dcl[i].ar.length c) ∧ W.cell? ⟨g, i * 3 + 2, none⟩ = some (.int .i64 dcl[i].rs) ∧
      Calls Tryz.prog 23 #[.pointer (some ⟨r, 0, none⟩), .agg #[.string dcl[i].nm, .slice A dcl[i].ar.length c, .int .i64 dcl[i].rs]] W fun e w' => (∃ v, e = .returned v) ∧ Jd G B w w' p r (1 + (i + 1)) so0 (fuN (i + 1)) (dcl.take (i + 1)) [nmU] (dcl.take (i + 1)) T ∧ Dl G w' g := fun p r g i G T W hi h hD hg => by
    obtain ⟨A, c, k0, k1, k2, k3, k4⟩ := hD i hi
    obtain ⟨q1, q2, q3, q4, q5⟩ := dcl_at hi
    obtain ⟨AN, cN, AF, cF, vL, hr⟩ := h.rf
    have hX : ∀ b ∈ G, b < W.heap.size ∧ b ∉ ([] : List Nat) := fun b hb => ⟨(h.tb.xs b (List.mem_cons_of_mem _ hb)).1, by simp⟩
    refine ⟨A, c, k0, k1, k2, (ref_fun hr h.tb.lt (by decide) (by rw [List.length_take]; rw [dcl_len] at *; omega) dcl[i].nm A dcl[i].ar c dcl[i].rs (k3.ir hX) k4 (Nat.le_trans (Nat.le_of_eq q4) (by decide)) q3 q5 q2).mono fun e w' ⟨he, ⟨AF', cF', h1⟩, h2⟩ => ?_⟩
    obtain ⟨J, S⟩ := h.ref ⟨AN, cN, AF', cF', vL, h1⟩ h2
    have J' : Jd G B w w' p r (1 + i + 1) so0 (fuN (i + 1)) (dcl.take (i + 1)) [nmU] (dcl.take i ++ [dcl[i]]) T := J
    rw [← take_next hi] at J'
    exact ⟨⟨_, he⟩, by rw [← Nat.add_assoc]; exact J', hD.same hg S⟩
  have c6 : ∀ (p r : Nat) (G T : List Nat) (W : World), Jd G B w W p r 11 so0 (fuN 10) (dcl.take 10) [nmU] (dcl.take 10) T → Calls Tryz.prog 24 #[.pointer (some ⟨p, 0, none⟩)] W fun e w' => ∃ q, e = .returned (.pointer (some ⟨q, 0, none⟩)) ∧ ∀ o, Tt [] B w (w'.alloc o) q 0 so0 (fuN 10) dcl [] := fun p r G T W h =>
    (tt_new (h.tw (by decide))).mono fun e w' ⟨he, h1, h2⟩ => ⟨_, he, fun o => (h1.less (Y := []) (by simp)).al o⟩
  replace c1 := hide c1; replace c2 := hide c2; replace c3 := hide c3; replace c4 := hide c4; replace c5 := hide c5; replace c6 := hide c6
  go_enter Tryz.func7, Tryz.ntmps7
  go_wp2_with (first
    | (go_at_call 18; (with_reducible refine c0.out.mono ?_); rintro e w1 ⟨rfl, J1⟩; replace J1 := hide J1)
    | (go_at_call 19; (with_reducible refine (c1.out _ _ _ _ J1.out).mono ?_); rintro e w2 ⟨⟨v2, rfl⟩, T2, J2⟩; replace J2 := hide J2)
    | (go_at_call 20; (with_reducible refine (c2.out _ _ _ _ J2.out).mono ?_); rintro e w3 ⟨⟨v3, rfl⟩, J3⟩; replace J3 := hide J3)
    | (go_at_call 21; (with_reducible refine (c3.out _ _ _ _ J3.out).mono ?_); rintro e w4 ⟨rfl, G, hG, D4, J4⟩; replace J4 := hide J4; replace D4 := hide D4; replace hG := hide hG))
  generalize w3.heap.size + 3 = g at *
  generalize w1.heap.size = r at *
  go_loopw [5] (fun ii wr => ∃ (i : Nat) (T : List Nat), i ≤ 10 ∧ ii = .int .i64 (i : Int) ∧ Jd G B w wr B r (1 + i) so0 (fuN i) (dcl.take i) [nmU] (dcl.take i) T ∧ Dl G wr g) (fun ii _ => 10 - (intOf ii).toNat)
  case atStart => exact ⟨0, _, Nat.zero_le _, rfl, J4.out, D4.out⟩
  case round =>
    obtain ⟨i, T, hi, rfl, J, D⟩ := hrel
    by_cases hlt : i < 10
    · obtain ⟨A, c, k0, k1, k2, hf1⟩ := c4.out _ _ _ _ _ _ _ hlt J D hG.out
      replace J := hide J
      replace D := hide D
      replace hf1 := hide hf1
      have hid : i < dcl.length := hlt
      generalize hdn : dcl[i].nm = nm at *
      generalize hda : dcl[i].ar.length = an at *
      generalize hdr : dcl[i].rs = rs at *
      replace hdn := hide hdn; replace hda := hide hda; replace hdr := hide hdr
      go_wp2_with (first
        | (go_at_call 22; (with_reducible refine (hf1.out).mono ?_); rintro e w5 ⟨⟨v5, rfl⟩, T5, J5, D5⟩; obtain ⟨A6, c6', y0, y1, y2, hf2⟩ := c5.out _ _ _ _ _ _ _ hid J5 D5 hG.out; rw [hdn.out] at y0 hf2; rw [hda.out] at y1 hf2; rw [hdr.out] at y2 hf2; replace hf2 := hide hf2; replace J5 := hide J5; replace D5 := hide D5)
        | (go_at_call 23; (with_reducible refine (hf2.out).mono ?_); rintro e w6 ⟨⟨v6, rfl⟩, J6, D6⟩; replace J6 := hide J6; replace D6 := hide D6))
      go_roundw
      case rel => exact ⟨i + 1, T5, hlt, rfl, J6.out, D6.out⟩
      case measure => simp only [intOf]; omega
    · have hi10 : i = 10 := by omega
      subst hi10
      replace J := hide J
      replace D := hide D
      go_wp2_with (go_at_call 24; (with_reducible refine (c6.out _ _ _ _ _ J.out).mono ?_); rintro e w7 ⟨q, rfl, hT⟩; replace hT := hide hT)
      go_ret2
      exact ⟨q, _, rfl, hT.out _⟩
end Nt

end Go.Proofs.YtfdeiejphlaokaaGreatDoor

namespace Go.Proofs.YtfdeiejphlaokaaGreatDoor

open Go.ChangeShapes Go.RowKit

namespace Nt
set_option maxRecDepth 100000
set_option linter.unusedSimpArgs false
set_option linter.unusedVariables false

section

variable {X : List Nat} {B0 : Nat} {w0 w : World} {q N : Nat} {so fu : List (ByteArray × Nat)} {ty : List Fn} {ns : List Nd}
theorem Rx.next {w' : World} {A : Option Addr} {vs : List Value} (h : Rx X B0 w A vs) (hb : Below w.heap.size w w') : Rx X B0 w' A vs := by
  rcases h with h | ⟨b, o, e, h1, h2, h3⟩
  · exact .inl h
  · exact .inr ⟨b, o, e, h1, Nat.lt_of_lt_of_le h2 hb.size, fun j v hj => (hb.cell (p := ⟨b, o + j, none⟩) h2).trans (h3 j v hj)⟩
theorem Rx.ir {A : Option Addr} {xs : List Int} (h : Rx X B0 w A (zs xs)) : Ir [] w A xs :=
  (h.rw (T := []) (by simp) (by simp)).ir
theorem hall_true {ar : List Int} {n : Nat} (h : ∀ a ∈ ar, 0 ≤ a ∧ a < (n : Int)) : ar.all (hasT n) = true := List.all_eq_true.2 fun a ha => hasT_iff.2 (h a ha)
theorem sorted_app_t {s : ByteArray} {C : Option Addr} {n e : Nat} {x : Int} (h : Calls Tryz.prog 54 #[.pointer (some ⟨q, 0, none⟩), .string s, .slice C n e] w fun ee w' => ee = .returned (.tuple #[.int .i64 x, .bool true]) ∧ Below w.heap.size w w') :
    Calls Tryz.prog 33 #[.pointer (some ⟨q, 0, none⟩), .int .i64 12, .string s, .slice C n e] w fun ee w' => ee = .returned (.tuple #[.int .i64 x, .bool true]) ∧ Below w.heap.size w w' := by
  replace h := hide h
  go_enter Tryz.func33, Tryz.ntmps33
  go_wp2_with (go_at_call 54; (with_reducible refine h.out.mono ?_); rintro ee w1 ⟨rfl, hb⟩; replace hb := hide hb)
  go_ret2
  exact ⟨rfl, hb.out⟩
def zArgs (q : Nat) (op : Int) (C : Option Addr) (n e : Nat) : Array Value := mkArgs q op ⟨#[]⟩ false none 0 0 none 0 0 C n e

theorem op_wf (h : Tt X B0 w0 w q N so fu ty ns) (hN : N ≤ 100000) (op : Int) (h1 : 1 ≤ op) (h2 : op ≤ 20) (h11 : op ≠ 11) (h12 : op ≠ 12) (C : Option Addr) (ar : List Int) (e : Nat) (hC : Ir [] w C ar) (nC : ar.length ≤ 64) (o : Obj) :
    Calls Tryz.prog 32 (zArgs q op C ar.length e) (w.alloc o) fun ee w' => ee = .returned (.bool (ar.all (hasT ns.length))) ∧ Below (w.alloc o).heap.size (w.alloc o) w' := by
  obtain ⟨A, c, hv⟩ := tt_vw (h.al o) (by omega)
  exact wf_oth (w.alloc o) q c A ns.length hv.sl op h1 h2 h11 h12 none none 0 0 C ar e [] (hC.al o) nC
theorem op_so (h : Tt X B0 w0 w q N so fu ty ns) (hN : N ≤ 100000) (op : Int) (h1 : 1 ≤ op) (h2 : op ≤ 20) (h12 : op ≠ 12) (nm : ByteArray) (C : Option Addr) (ar : List Int) (e : Nat) (hC : Ir [] w C ar) (nC : ar.length ≤ 64) (hcap : ar.length ≤ e) (he : e ≤ maxLen) (hin : ∀ a ∈ ar, 0 ≤ a ∧ a < (ns.length : Int)) :
    ∀ W, Below w.heap.size w W → Calls Tryz.prog 33 #[.pointer (some ⟨q, 0, none⟩), .int .i64 op, .string nm, .slice C ar.length e] W fun ee w' => ee = .returned (.tuple #[.int .i64 (srtS ns op ar), .bool (srtB ns op ar)]) ∧ Below W.heap.size W w' := by
  intro W hb
  obtain ⟨A, c, hv⟩ := tt_vw (h.next hb) (by omega)
  exact sorted_t op nm hv (hC.off (T' := []) (Off.of_below hb []) (by simp) (by simp)) hin nC hcap he h1 h2 h12
theorem mk_op_arg (h : Tt X B0 w0 w q N so fu ty ns) (hN : N ≤ 100000) (op : Int) (h1 : 1 ≤ op) (h2 : op ≤ 20) (h11 : op ≠ 11) (h12 : op ≠ 12) (C : Option Addr) (ar : List Int) (e : Nat) (hC : Ir [] w C ar) (nC : ar.length ≤ 64) (hno : ar.all (hasT ns.length) = false) :
    Calls Tryz.prog 16 (zArgs q op C ar.length e) w fun ee w' => ee = .returned (.tuple #[.int .i64 0, .int .i64 1]) ∧ Below w.heap.size w w' := by
  have hw := op_wf h hN op h1 h2 h11 h12 C ar e hC nC (.cells #[.bool false, .slice none 0 0, .slice none 0 0] 36)
  rw [hno] at hw
  exact mk_arg hw
theorem mk_op_sort (h : Tt X B0 w0 w q N so fu ty ns) (hN : N ≤ 100000) (op : Int) (h1 : 1 ≤ op) (h2 : op ≤ 20) (h11 : op ≠ 11) (h12 : op ≠ 12) (C : Option Addr) (ar : List Int) (e : Nat) (hC : Ir [] w C ar) (nC : ar.length ≤ 64) (hcap : ar.length ≤ e) (he : e ≤ maxLen) (hin : ∀ a ∈ ar, 0 ≤ a ∧ a < (ns.length : Int)) (hno : srtB ns op ar = false) :
    Calls Tryz.prog 16 (zArgs q op C ar.length e) w fun ee w' => ee = .returned (.tuple #[.int .i64 0, .int .i64 3]) ∧ Below w.heap.size w w' := by
  have hw := op_wf h hN op h1 h2 h11 h12 C ar e hC nC (.cells #[.bool false, .slice none 0 0, .slice none 0 0] 36)
  rw [hall_true hin] at hw
  have hs := op_so h hN op h1 h2 h12 ⟨#[]⟩ C ar e hC nC hcap he hin
  rw [hno] at hs
  exact mk_sort hw _ hs
theorem mk_op_new (h : Tt X B0 w0 w q N so fu ty ns) (hN : N ≤ 100000) (op : Int) (h1 : 1 ≤ op) (h2 : op ≤ 20) (h11 : op ≠ 11) (h12 : op ≠ 12) (C : Option Addr) (ar : List Int) (e : Nat) (hC : Rx X B0 w C (zs ar)) (nC : ar.length ≤ 64) (hcap : ar.length ≤ e) (he : e ≤ maxLen) (hin : ∀ a ∈ ar, 0 ≤ a ∧ a < (ns.length : Int)) (hyes : srtB ns op ar = true)
    (hlen : ns.length < 16384) (h16 : op = 16 → 0 < ar.length) (hso : 0 ≤ srtS ns op ar ∧ srtS ns op ar ≤ 100000000) (hwo : 0 ≤ wOf ns op [] ar ∧ wOf ns op [] ar ≤ 2) (hnew : ∀ m ∈ ns, kvl m ≠ kvl ⟨op, ⟨#[]⟩, false, [], [], ar, srtS ns op ar, 0⟩) :
    Calls Tryz.prog 16 (zArgs q op C ar.length e) w fun ee w' => ee = .returned (.tuple #[.int .i64 (ns.length : Int), .int .i64 0]) ∧ Tt X B0 w0 w' q (N + 1) so fu ty (ns ++ [⟨op, ⟨#[]⟩, false, [], [], ar, srtS ns op ar, wOf ns op [] ar⟩]) ∧ Same X w w' := by
  have hw := op_wf h hN op h1 h2 h11 h12 C ar e hC.ir nC (.cells #[.bool false, .slice none 0 0, .slice none 0 0] 36)
  rw [hall_true hin] at hw
  have hs := op_so h hN op h1 h2 h12 ⟨#[]⟩ C ar e hC.ir nC hcap he hin
  rw [hyes] at hs
  refine (mk_put (R := fun W w' => Tt X B0 w0 w' q (N + 1) so fu ty (ns ++ [⟨op, ⟨#[]⟩, false, [], [], ar, srtS ns op ar, wOf ns op [] ar⟩]) ∧ Same X W w') hw _ hs (ns.length : Int) 0 (fun W hb => ?_)).mono fun ee w' ⟨he, W, hb, k1, k2⟩ => ⟨he, k1, (Same.of_below hb (fun b hb => h.lt hb)).trans k2⟩
  exact tt_put (h.next hb) op ⟨#[]⟩ false [] [] ar _ none none C 0 0 e .nil .nil (hC.next hb) (by simp) (by simp) ⟨⟨h1, h2⟩, (show (⟨#[]⟩ : ByteArray).size ≤ 200 from by decide), by simp, by simp, nC, hso, hwo⟩ hin hnew hN hlen h16
theorem mk_op_old (h : Tt X B0 w0 w q N so fu ty ns) (hN : N ≤ 100000) (op : Int) (h1 : 1 ≤ op) (h2 : op ≤ 20) (h11 : op ≠ 11) (h12 : op ≠ 12) (C : Option Addr) (ar : List Int) (e : Nat) (hC : Rx X B0 w C (zs ar)) (nC : ar.length ≤ 64) (hcap : ar.length ≤ e) (he : e ≤ maxLen) (hin : ∀ a ∈ ar, 0 ≤ a ∧ a < (ns.length : Int)) (hyes : srtB ns op ar = true)
    (hso : 0 ≤ srtS ns op ar ∧ srtS ns op ar ≤ 100000000) (i : Nat) (hi : i < ns.length) (hold : kvl ns[i] = kvl ⟨op, ⟨#[]⟩, false, [], [], ar, srtS ns op ar, 0⟩) :
    Calls Tryz.prog 16 (zArgs q op C ar.length e) w fun ee w' => ee = .returned (.tuple #[.int .i64 (i : Int), .int .i64 0]) ∧ Below w.heap.size w w' := by
  have hw := op_wf h hN op h1 h2 h11 h12 C ar e hC.ir nC (.cells #[.bool false, .slice none 0 0, .slice none 0 0] 36)
  rw [hall_true hin] at hw
  have hs := op_so h hN op h1 h2 h12 ⟨#[]⟩ C ar e hC.ir nC hcap he hin
  rw [hyes] at hs
  refine (mk_put (R := fun W w' => Below W.heap.size W w') hw _ hs (i : Int) 0 (fun W hb => ?_)).mono fun ee w' ⟨he, W, hb, k1⟩ => ⟨he, hb.trans (k1.mono hb.size)⟩
  exact tt_put_old (h.next hb) op ⟨#[]⟩ false [] [] ar _ none none C 0 0 e .nil .nil (hC.next hb) (by simp) (by simp) ⟨⟨h1, h2⟩, (show (⟨#[]⟩ : ByteArray).size ≤ 200 from by decide), by simp, by simp, nC, hso, (show (0 : Int) ≤ 0 ∧ (0 : Int) ≤ 2 from by decide)⟩ hin i hi hold hN

/-- A constant. -/
theorem con_new (h : Tt X B0 w0 w q N so fu ty ns) (hN : N ≤ 100000) (s : ByteArray) (hs : s.size ≤ 200) (i : Nat) (hi : i < ty.length) (hx : ty[i].nm = s) (h0 : ty[i].ar = []) (hr : 0 ≤ ty[i].rs ∧ ty[i].rs ≤ 100000000) (hlen : ns.length < 16384) (hnew : ∀ m ∈ ns, kvl m ≠ kvl ⟨12, s, false, [], [], [], ty[i].rs, 0⟩) :
    Calls Tryz.prog 14 #[.pointer (some ⟨q, 0, none⟩), .string s] w fun ee w' => ee = .returned (.int .i64 (ns.length : Int)) ∧ Tt X B0 w0 w' q (N + 1) so fu ty (ns ++ [⟨12, s, false, [], [], [], ty[i].rs, 0⟩]) ∧ Same X w w' := by
  have hm : Calls Tryz.prog 16 (mkArgs q 12 s false none 0 0 none 0 0 none 0 0) w fun ee w' => ee = .returned (.tuple #[.int .i64 (ns.length : Int), .int .i64 0]) ∧ Tt X B0 w0 w' q (N + 1) so fu ty (ns ++ [⟨12, s, false, [], [], [], ty[i].rs, 0⟩]) ∧ Same X w w' := by
    obtain ⟨A, c, hv⟩ := tt_vw (h.al (.cells #[.bool false, .slice none 0 0, .slice none 0 0] 36)) (by omega)
    have hw := wf_app _ q c A ns.length hv.sl s none none 0 0 none [] 0 [] (.inl rfl) (by decide)
    refine (mk_put (R := fun W w' => Tt X B0 w0 w' q (N + 1) so fu ty (ns ++ [⟨12, s, false, [], [], [], ty[i].rs, 0⟩]) ∧ Same X W w') hw ty[i].rs (fun W hb => ?_) (ns.length : Int) 0 (fun W hb => ?_)).mono fun ee w' ⟨he, W, hb, k1, k2⟩ => ⟨he, k1, (Same.of_below hb (fun b hb => h.lt hb)).trans k2⟩
    · refine (sorted_app_t ?_)
      exact app_t (h.next hb) s (by unfold maxLen; omega) i hi (by rw [hx]) h0 none 0
    · exact tt_put (h.next hb) 12 s false [] [] [] _ none none none 0 0 0 .nil .nil .nil (by simp) (by simp) ⟨(show (1 : Int) ≤ 12 ∧ (12 : Int) ≤ 20 from by decide), hs, by simp, by simp, by simp, hr, (show 0 ≤ wOf ns 12 [] [] ∧ wOf ns 12 [] [] ≤ 2 from by rw [show wOf ns 12 [] [] = 0 from rfl]; decide)⟩ (by simp) hnew hN hlen (by decide)
  unfold mkArgs at hm
  generalize ty[i].rs = rs at *
  replace hm := hide hm
  clear hnew h
  go_enter Tryz.func14, Tryz.ntmps14
  go_wp2_with (go_at_call 16; (with_reducible refine hm.out.mono ?_); rintro ee w1 ⟨rfl, hT, hS⟩; replace hT := hide hT; replace hS := hide hS)
  go_ret
  exact ⟨rfl, hT.out, hS.out⟩
theorem con_old (h : Tt X B0 w0 w q N so fu ty ns) (hN : N ≤ 100000) (s : ByteArray) (hs : s.size ≤ 200) (i : Nat) (hi : i < ty.length) (hx : ty[i].nm = s) (h0 : ty[i].ar = []) (hr : 0 ≤ ty[i].rs ∧ ty[i].rs ≤ 100000000) (j : Nat) (hj : j < ns.length) (hold : kvl ns[j] = kvl ⟨12, s, false, [], [], [], ty[i].rs, 0⟩) :
    Calls Tryz.prog 14 #[.pointer (some ⟨q, 0, none⟩), .string s] w fun ee w' => ee = .returned (.int .i64 (j : Int)) ∧ Below w.heap.size w w' := by
  have hm : Calls Tryz.prog 16 (mkArgs q 12 s false none 0 0 none 0 0 none 0 0) w fun ee w' => ee = .returned (.tuple #[.int .i64 (j : Int), .int .i64 0]) ∧ Below w.heap.size w w' := by
    obtain ⟨A, c, hv⟩ := tt_vw (h.al (.cells #[.bool false, .slice none 0 0, .slice none 0 0] 36)) (by omega)
    have hw := wf_app _ q c A ns.length hv.sl s none none 0 0 none [] 0 [] (.inl rfl) (by decide)
    refine (mk_put (R := fun W w' => Below W.heap.size W w') hw ty[i].rs (fun W hb => ?_) (j : Int) 0 (fun W hb => ?_)).mono fun ee w' ⟨he, W, hb, k1⟩ => ⟨he, hb.trans (k1.mono hb.size)⟩
    · refine (sorted_app_t ?_)
      exact app_t (h.next hb) s (by unfold maxLen; omega) i hi (by rw [hx]) h0 none 0
    · exact tt_put_old (h.next hb) 12 s false [] [] [] _ none none none 0 0 0 .nil .nil .nil (by simp) (by simp) ⟨(show (1 : Int) ≤ 12 ∧ (12 : Int) ≤ 20 from by decide), hs, by simp, by simp, by simp, hr, (show (0 : Int) ≤ 0 ∧ (0 : Int) ≤ 2 from by decide)⟩ (by simp) j hj hold hN
  unfold mkArgs at hm
  replace hm := hide hm
  clear hold h
  have hj2 : (j : Int) = (j : Int) := rfl
  go_enter Tryz.func14, Tryz.ntmps14
  go_wp2_with (go_at_call 16; (with_reducible refine hm.out.mono ?_); rintro ee w1 ⟨rfl, hT⟩; replace hT := hide hT)
  go_ret
  exact ⟨rfl, hT.out⟩

end

end Nt

end Go.Proofs.YtfdeiejphlaokaaGreatDoor

namespace Go.Proofs.YtfdeiejphlaokaaGreatDoor

open Go.ChangeShapes Go.RowKit

namespace Nt
set_option maxRecDepth 100000
set_option linter.unusedSimpArgs false
set_option linter.unusedVariables false

section

variable {X : List Nat} {B0 : Nat} {w0 w : World} {q N : Nat} {so fu : List (ByteArray × Nat)} {ty : List Fn} {ns : List Nd}
/-- The limbs of a small number. -/
def lm (n : Nat) : List Nat := if n = 0 then [] else [n]
theorem digs_small (n : Nat) (h : n < 1000) : digs n = lm n := by
  unfold lm
  by_cases h0 : n = 0
  · rw [if_pos h0, h0, digs_zero]
  · rw [if_neg h0, digs, dif_neg h0]
    have h1 : n % LB = n := Nat.mod_eq_of_lt (by unfold LB; omega)
    have h2 : n / LB = 0 := Nat.div_eq_of_lt (by unfold LB; omega)
    rw [h1, h2, digs_zero]
theorem q_small (n : Nat) : ∃ r : Rat, qmk (isg (n : Int) != isg 1) (n : Int).natAbs (1 : Int).natAbs = r ∧ qs r = false ∧ qn r = n ∧ qd r = 1 := by
  refine ⟨(n : Rat), ?_, ?_, ?_, ?_⟩
  · have h0 : decide ((n : Int) < 0) = false := decide_eq_false (by omega)
    unfold qmk isg
    rw [h0]
    simp [sgz]
    rw [Rat.mkRat_one]
    rfl
  · unfold qs
    have h0 : ¬ (n : Int) < 0 := by omega
    simp [isg, h0]
  · unfold qn
    simp
  · unfold qd
    simp

set_option maxHeartbeats 1000000 in
theorem num_new (h : Tt X B0 w0 w q N so fu ty ns) (hN : N ≤ 100000) (hns : ns ≠ []) (n : Nat) (hn : n < 1000) (hlen : ns.length < 16384) (hnew : ∀ m ∈ ns, kvl m ≠ kvl ⟨11, ⟨#[]⟩, false, lm n, [1], [], 1, 0⟩) :
    Calls Tryz.prog 15 #[.pointer (some ⟨q, 0, none⟩), .int .i64 (n : Int)] w fun ee w' => ee = .returned (.int .i64 (ns.length : Int)) ∧ Tt X B0 w0 w' q (N + 1) so fu ty (ns ++ [⟨11, ⟨#[]⟩, false, lm n, [1], [], 1, wOf ns 11 (lm n) []⟩]) ∧ Same X w w' := by
  obtain ⟨r, hr, r1, r2, r3⟩ := q_small n
  have ho := rof_q (n : Int) 1 r w (by omega) (by omega) (by decide) (by decide) (by decide) hr
  unfold RQ ln at ho
  rw [r1, r2, r3, digs_small n hn, digs_small 1 (by decide)] at ho
  rw [show lm 1 = [1] from rfl] at ho
  have hv : validQ false (lm n) [1] = true := by
    have := validQ_q r (by rw [r2]; unfold ln; rw [digs_small n hn]; unfold lm; split <;> simp) (by rw [r3]; unfold ln; rw [digs_small 1 (by decide)]; decide)
    rw [r1, r2, r3, digs_small n hn, digs_small 1 (by decide)] at this
    exact this
  have hll : (lm n).length ≤ 1 := by unfold lm; split <;> simp
  have hlb : ∀ x ∈ lm n, x < 18446744073709551616 := by
    unfold lm
    split
    · simp
    · intro x hx; simp at hx; omega
  have hm : ∀ (W : World) (A B : Option Addr) (c d : Nat), Below w.heap.size w W → Sl W A (lm n) → Sl W B [1] → Calls Tryz.prog 16 (mkArgs q 11 ⟨#[]⟩ false A (lm n).length c B 1 d none 0 0) W fun ee w' => ee = .returned (.tuple #[.int .i64 (ns.length : Int), .int .i64 0]) ∧ Tt X B0 w0 w' q (N + 1) so fu ty (ns ++ [⟨11, ⟨#[]⟩, false, lm n, [1], [], 1, wOf ns 11 (lm n) []⟩]) ∧ Same X w w' := by
    intro W A B c d hb sA sB
    have hW := h.next hb
    obtain ⟨A0, cc, hvw⟩ := tt_vw (hW.al (.cells #[.bool false, .slice A (lm n).length c, .slice B 1 d] 36)) (by omega)
    have hw := wf_num _ q cc A0 ns.length hvw.sl false (lm n) [1] A B c d (sA.alloc _) (sB.alloc _) hlb (by intro x hx; simp at hx; subst hx; decide) (by omega) (by simp) hv none [] 0 [] (.inl rfl) (by decide)
    refine (mk_put (R := fun W' w' => Tt X B0 w0 w' q (N + 1) so fu ty (ns ++ [⟨11, ⟨#[]⟩, false, lm n, [1], [], 1, wOf ns 11 (lm n) []⟩]) ∧ Same X W' w') hw 1 (fun W' hb' => ?_) (ns.length : Int) 0 (fun W' hb' => ?_)).mono fun ee w' ⟨he, W', hb', k1, k2⟩ => ⟨he, k1, (Same.of_below (hb.trans (hb'.mono hb.size)) (fun b hb => h.lt hb)).trans k2⟩
    · exact op_so hW hN 11 (by decide) (by decide) (by decide) ⟨#[]⟩ none [] 0 (.inl rfl) (by decide) (by decide) (by decide) (by simp) W' hb'
    · have hwf : 0 ≤ wOf ns 11 (lm n) [] ∧ wOf ns 11 (lm n) [] ≤ 2 := by
        unfold wOf
        rw [if_pos rfl]
        split <;> decide
      exact tt_putS (hW.next hb') hns 11 ⟨#[]⟩ false (lm n) [1] [] 1 A B none c d 0 (Rw.of_sl (kp' hb' sA) (by simp)) (Rw.of_sl (kp' hb' sB) (by simp)) .nil hlb (by simp) ⟨(show (1 : Int) ≤ 11 ∧ (11 : Int) ≤ 20 from by decide), (show (⟨#[]⟩ : ByteArray).size ≤ 200 from by decide), (show (lm n).length ≤ 64 from by omega), by simp, by simp, (show (0 : Int) ≤ 1 ∧ (1 : Int) ≤ 100000000 from by decide), hwf⟩ (by simp) hnew hN hlen (by decide)
  unfold mkArgs at hm
  replace hm := hide hm
  replace ho := hide ho
  clear h hnew hr hv
  generalize hl0 : (lm n).length = l0 at *
  go_enter Tryz.func15, Tryz.ntmps15
  go_wp2_with (first
    | (go_at_call 31; (with_reducible refine ho.out.mono ?_); rintro ee w1 ⟨A, c, B, d, rfl, s1, s2, hb1⟩; have hm2 := hide (hm.out w1 A B c d hb1 s1 s2); clear s1 s2 hb1)
    | (go_at_call 16; (with_reducible refine hm2.out.mono ?_); rintro ee w2 ⟨rfl, hT, hS⟩; replace hT := hide hT; replace hS := hide hS))
  go_ret
  exact ⟨rfl, hT.out, hS.out⟩
end

end Nt

end Go.Proofs.YtfdeiejphlaokaaGreatDoor
