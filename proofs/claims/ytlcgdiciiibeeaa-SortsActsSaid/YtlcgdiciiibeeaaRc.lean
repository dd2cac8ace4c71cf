/-
  The reference's functions: found; declared.
-/
import Derived.Test.YtlcgdiciiibeeaaRb
import Derived.Test.YtlcgdiciiibeeaaOh
namespace Go.Proofs.Ytlcgdiciiibeeaa
open Go.ChangeShapes Go.RowKit
namespace Nt
set_option maxRecDepth 100000
set_option linter.unusedSimpArgs false
set_option linter.unusedVariables false

/-- A slice literal of no element, of one. -/
theorem wp_build0 {Q : Exit → Act → World → Prop} {o : Oper} {a : Act} {w : World} {K : Act → World → Prop} (T e k : TypeId) (ho : o.op = .buildSlice T 0 #[]) (hT : Try.prog.underlying T = some (.slice e)) (hk : ∀ w, (Go.sizeOf e).run Try.prog w = .ok k w)
    (hK : ∀ w', Bk w.heap.size #[] e w' → Below w.heap.size w w' → K (a.put o.dst (.slice (some ⟨w.heap.size, 0, none⟩) 0 0)) w') : Oper.wp Try.prog o a w K Q := by
  have h1 := hK (w.alloc (.cells #[] e)) (Bk.new _ _ _) (bel_al _ _)
  unfold Oper.wp
  simp only [execOp, ho]
  go_simp
  simp only [run_underlying hT, Result.andThen_ok, hk]
  go_simp
  exact h1
theorem wp_buildF {Q : Exit → Act → World → Prop} {o : Oper} {a : Act} {w : World} {K : Act → World → Prop} (i : Nat) (nm : ByteArray) (A : Option Addr) (n c : Nat) (rs : Int) (ho : o.op = .buildSlice 29 1 #[(0, .tmp i)]) (hx : a.tmps[i]?.getD undef = .agg #[.string nm, .slice A n c, .int .i64 rs])
    (hK : ∀ w', Bk w.heap.size #[.string nm, .slice A n c, .int .i64 rs] 35 w' → Below w.heap.size w w' → K (a.put o.dst (.slice (some ⟨w.heap.size, 0, none⟩) 1 1)) w') : Oper.wp Try.prog o a w K Q := by
  have h1 := hK (w.alloc (.cells #[.string nm, .slice A n c, .int .i64 rs] 35)) (Bk.new _ _ _) (bel_al _ _)
  clear hK
  unfold Oper.wp
  simp only [execOp, ho]
  go_simp
  exact h1

/-- What is at hand within the region that lays a function. -/
structure St (w2 : World) (vs : List Value) (n : Nat) (W : World) (x y : Option Nat) (v : Option Value) : Prop where
  bl : Below w2.heap.size w2 W
  hx : ∀ X, x = some X → Bk X #[] 35 W ∧ w2.heap.size ≤ X
  hy : ∀ Y, y = some Y → Bk Y #[] 3 W ∧ w2.heap.size ≤ Y ∧ x ≠ some Y
  hv : ∀ u, v = some u → W.ownsRow 0 35 3 u n vs ∧ ∀ b, u.ownBlock = some b → w2.heap.size ≤ b ∧ y ≠ some b
structure Mid (w2 : World) (vs : List Value) (n : Nat) (ar : List Int) (W : World) (u : Value) (A2 : Option Addr) (c2 : Nat) : Prop where
  bl : Below w2.heap.size w2 W
  hv : W.ownsRow 0 35 3 u n vs
  h1 : ∀ b, u.ownBlock = some b → w2.heap.size ≤ b
  hi : W.ownsRow 0 3 1 (.slice A2 ar.length c2) ar.length (ar.map fun x => Value.int .i64 x)
  h2 : ∀ b, (Value.slice A2 ar.length c2).ownBlock = some b → w2.heap.size ≤ b ∧ u.ownBlock ≠ some b
section
variable {w2 W W' : World} {vs : List Value} {n : Nat} {x y : Option Nat} {v : Option Value} {ar : List Int}
theorem St.start (w2 : World) (vs : List Value) (n : Nat) (hb : Below w2.heap.size w2 W) : St w2 vs n W none none none := ⟨hb, by simp, by simp, by simp⟩
theorem St.a1 (h : St w2 vs n W none y none) (hB : Bk W.heap.size #[] 35 W') (hb : Below W.heap.size W W') : St w2 vs n W' (some W.heap.size) y none := by
  have hs := h.bl.size
  refine ⟨h.bl.trans (hb.mono hs), fun X hX => ?_, fun Y hY => ?_, by simp⟩
  · cases hX; exact ⟨hB, hs⟩
  · obtain ⟨k1, k2, k3⟩ := h.hy Y hY
    exact ⟨k1.next hb, k2, fun e => by cases e; exact Nat.lt_irrefl _ k1.lt⟩
theorem St.a9 (h : St w2 vs n W x none v) (hB : Bk W.heap.size #[] 3 W') (hb : Below W.heap.size W W') : St w2 vs n W' x (some W.heap.size) v := by
  have hs := h.bl.size
  refine ⟨h.bl.trans (hb.mono hs), fun X hX => ⟨(h.hx X hX).1.next hb, (h.hx X hX).2⟩, fun Y hY => ?_, fun u hu => ?_⟩
  · cases hY
    exact ⟨hB, hs, fun e => Nat.lt_irrefl _ (h.hx _ e).1.lt⟩
  · obtain ⟨k1, k2⟩ := h.hv u hu
    exact ⟨Off.row k1 (Off.of_below hb []) (by simp), fun b hb' => ⟨(k2 b hb').1, fun e => by cases e; exact Nat.lt_irrefl _ (row_lt k1 hb')⟩⟩
theorem row_bk {X e size : Nat} (h : Bk X #[] e W) : W.ownsRow 0 e size (.slice (some ⟨X, 0, none⟩) 0 0) 0 [] := ⟨by simp, .inr ⟨X, 0, #[], rfl, Nat.zero_le _, h, Nat.le_refl _, Nat.zero_le _, by simp, by simp⟩⟩
theorem St.p6 {X : Nat} (h : St w2 vs n W (some X) y none) (A : Option Addr) (c : Nat) (Z : List Nat) (hR : Rv Z w2 A vs) (hl : vs.length = n * 3) (hone : ∀ u ∈ vs, u.oneCell' = true) (hn : n ≤ 1000) (hform : A = none → c = 0) :
    ∃ r W', (∀ t', (Builtin.append_ #[29, 29] t' #[.slice (some ⟨X, 0, none⟩) 0 0, .slice A n c]).run Try.prog W = .ok r W') ∧ St w2 vs n W' none y (some r) := by
  obtain ⟨hX, hXb⟩ := h.hx X rfl
  have hs := h.bl.size
  obtain ⟨r, W', h1, k1, k2, k3⟩ := app_row infF Try.underlying29 rfl (by decide) W _ 0 [] (row_bk hX) A n c vs [] hl (hR.off (Off.of_below h.bl []) (by simp) (by simp)) hone (by omega) (by decide) hform
  rw [Nat.zero_add, List.nil_append] at k1
  have hk : ∀ b ∈ (Value.slice (some ⟨X, 0, none⟩) 0 0).ownBlock.toList, b = X := by intro b hb; simpa [Value.ownBlock] using hb
  refine ⟨r, W', h1, h.bl.trans (k2.below hs (fun b hb => by rw [hk b hb]; exact hXb)), by simp, fun Y hY => ?_, fun u hu => ?_⟩
  · obtain ⟨q1, q2, q3⟩ := h.hy Y hY
    exact ⟨q1.off k2 (fun hm => q3 (by rw [hk Y hm])), q2, by simp⟩
  · cases hu
    refine ⟨k1, fun b hb => ?_⟩
    rcases k3 b hb with e | e
    · have : b = X := by simp [Value.ownBlock] at e; exact e.symm
      subst this
      exact ⟨hXb, fun e2 => (h.hy b e2).2.2 rfl⟩
    · exact ⟨by omega, fun e2 => by have := (h.hy b e2).1.lt; omega⟩
theorem rv_ints {Z : List Nat} {A : Option Addr} (h : Ir Z W A ar) : Rv Z W A (ar.map fun x => Value.int .i64 x) := by
  rcases h with h | ⟨b, o, h1, h2, h3, h4⟩
  · exact .inl (by rw [h]; rfl)
  · refine .inr ⟨b, o, h1, h2, h3, fun j u hj => ?_⟩
    rw [List.getElem?_map] at hj
    have hlt : j < ar.length := by
      rcases Nat.lt_or_ge j ar.length with h | h
      · exact h
      · rw [List.getElem?_eq_none h] at hj; cases hj
    rw [List.getElem?_eq_getElem hlt] at hj
    simp at hj
    subst hj
    have := h4 j hlt
    rw [this]
    simp [List.getD, List.getElem?_eq_getElem hlt]
theorem St.p12 {Y : Nat} {u : Value} (h : St w2 vs n W none (some Y) (some u)) (A : Option Addr) (c : Nat) (Z : List Nat) (hR : Ir Z w2 A ar) (hn : ar.length ≤ 1000) (hform : A = none → c = 0) :
    ∃ r W', (∀ t', (Builtin.append_ #[33, 33] t' #[.slice (some ⟨Y, 0, none⟩) 0 0, .slice A ar.length c]).run Try.prog W = .ok r W') ∧ ∃ A2 c2, r = .slice A2 ar.length c2 ∧ Mid w2 vs n ar W' u A2 c2 := by
  obtain ⟨hY, hYb, _⟩ := h.hy Y rfl
  obtain ⟨hv, hvb⟩ := h.hv u rfl
  have hs := h.bl.size
  obtain ⟨r, W', h1, k1, k2, k3⟩ := app_row infI Try.underlying33 rfl (by decide) W _ 0 [] (row_bk hY) A ar.length c (ar.map fun x => Value.int .i64 x) [] (by simp) (rv_ints (hR.off (Off.of_below h.bl []) (by simp) (by simp))) (by intro u hu; simp only [List.mem_map] at hu; obtain ⟨x, _, rfl⟩ := hu; rfl) (by omega) (by decide) hform
  rw [Nat.zero_add, List.nil_append] at k1
  have hk : ∀ b ∈ (Value.slice (some ⟨Y, 0, none⟩) 0 0).ownBlock.toList, b = Y := by intro b hb; simpa [Value.ownBlock] using hb
  have hform2 : ∃ A2 c2, r = .slice A2 ar.length c2 := by
    rcases k1.2 with ⟨e, h⟩ | ⟨g, cap, cu, e, _⟩
    · exact ⟨none, 0, by rw [e, h]⟩
    · exact ⟨_, _, e⟩
  obtain ⟨A2, c2, rfl⟩ := hform2
  refine ⟨_, W', h1, A2, c2, rfl, h.bl.trans (k2.below hs (fun b hb => by rw [hk b hb]; exact hYb)), Off.row hv k2 (fun b hb hm => ?_), fun b hb => (hvb b hb).1, k1, fun b hb => ?_⟩
  · have := hk b hm
    subst this
    exact (hvb b hb).2 rfl
  · rcases k3 b hb with e | e
    · have : b = Y := by simp [Value.ownBlock] at e; exact e.symm
      subst this
      exact ⟨hYb, fun e2 => (hvb b e2).2 rfl⟩
    · exact ⟨by omega, fun e2 => by have := row_lt hv e2; omega⟩
/-- The last append: the function is laid behind the others. -/
theorem Mid.p17 {u : Value} {A2 : Option Addr} {c2 : Nat} {nm : ByteArray} {rs : Int} {W1 : World} (h : Mid w2 vs n ar W u A2 c2) (hB : Bk W.heap.size #[.string nm, .slice A2 ar.length c2, .int .i64 rs] 35 W1) (hb : Below W.heap.size W W1) (hn : n ≤ 1000) :
    ∃ r W', (∀ t', (Builtin.append_ #[29, 29] t' #[u, .slice (some ⟨W.heap.size, 0, none⟩) 1 1]).run Try.prog W1 = .ok r W') ∧ ∃ g c3, r = .slice (some ⟨g, 0, none⟩) (n + 1) c3 ∧ w2.heap.size ≤ g ∧ Below w2.heap.size w2 W' ∧
      W'.ownsRow 0 35 3 (.slice (some ⟨g, 0, none⟩) (n + 1) c3) (n + 1) (vs ++ [.string nm, .slice A2 ar.length c2, .int .i64 rs]) ∧ ∀ Z : List Nat, (∀ b ∈ Z, b < w2.heap.size) → Ir Z W' A2 ar := by
  have hs := h.bl.size
  have hs1 := hb.size
  have hRx : Rv [] W1 (some ⟨W.heap.size, 0, none⟩) [.string nm, .slice A2 ar.length c2, .int .i64 rs] := .inr ⟨_, 0, rfl, hB.lt, by simp, fun j u hj => by rw [Nat.zero_add]; exact hB.cell (by rw [← Array.getElem?_toList]; exact hj)⟩
  obtain ⟨r, W', h1, k1, k2, k3⟩ := app_row infF Try.underlying29 rfl (by decide) W1 u n vs (Off.row h.hv (Off.of_below hb []) (by simp)) (some ⟨W.heap.size, 0, none⟩) 1 1 [.string nm, .slice A2 ar.length c2, .int .i64 rs] [] rfl hRx (by intro u hu; simp at hu; rcases hu with rfl | rfl | rfl <;> rfl) (by omega) (by decide) (by simp)
  have hform2 : ∃ g c3, r = .slice (some ⟨g, 0, none⟩) (n + 1) c3 := by
    rcases k1.2 with ⟨_, h⟩ | ⟨g, cap, cu, e, _⟩
    · omega
    · exact ⟨_, _, e⟩
  obtain ⟨g, c3, rfl⟩ := hform2
  have hi1 := Off.row h.hi (Off.of_below hb []) (by simp)
  have hi2 := Off.row hi1 k2 (fun b hb' hm => (h.h2 b hb').2 (by rwa [Option.mem_toList] at hm))
  refine ⟨_, W', h1, g, c3, rfl, ?_, ?_, k1, fun Z hZ => ?_⟩
  · rcases k3 g rfl with e | e
    · exact h.h1 g e
    · omega
  · exact (h.bl.trans (hb.mono hs)).trans (k2.below (by omega) (fun b hb' => h.h1 b (by rwa [Option.mem_toList] at hb')))
  · have hr := Rv.of_row (Z := Z) hi2 (fun k hk hm => Nat.not_lt.2 (h.h2 k hk).1 (hZ k hm))
    rcases hr with e | ⟨b, o, e1, e2, e3, e4⟩
    · exact .inl (by simpa using e)
    · exact .inr ⟨b, o, e1, e2, e3, fun j hj => e4 j _ (by rw [List.getElem?_map, List.getElem?_eq_getElem hj]; simp [List.getD, List.getElem?_eq_getElem hj])⟩
end
end Nt
end Go.Proofs.Ytlcgdiciiibeeaa
