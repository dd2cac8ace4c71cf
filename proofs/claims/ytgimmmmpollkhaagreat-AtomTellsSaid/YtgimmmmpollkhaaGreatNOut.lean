
/-
  Rows that a call makes by append: the laws at a row of words.
-/
import Derived.Test.YtgimmmmpollkhaaGreatNAdd
import Derived.Deep.AppendLies
namespace Go.Proofs.YtgimmmmpollkhaaGreat

open Go.RowKit

namespace Nt

def Row (w : World) (base : Nat) (A : Option Addr) (n c : Nat) (xs : List Nat) : Prop := w.ownsRow base 119 1 (.slice A n c) n (xs.map lv)

section

variable {w w' w1 : World} {base n c : Nat} {A : Option Addr} {xs ys : List Nat}
theorem Row.len (h : Row w base A n c xs) : xs.length = n := by have := h.1; simpa using this
theorem Row.nil (w : World) (base : Nat) : Row w base none 0 0 [] := World.ownsRow_nil w base _ 1
theorem Own.row {g cap : Nat} (h : Own w base g cap xs) (hn : xs.length = n) : Row w base (some ⟨g, 0, none⟩) n cap xs := by subst hn; exact h
theorem Row.own {g cap : Nat} (h : Row w base (some ⟨g, 0, none⟩) n cap xs) : Own w base g cap xs := by
  have := h.len
  subst this; exact h
theorem Row.form (h : Row w base A n c xs) : (A = none ∧ xs = []) ∨ ∃ g, A = some ⟨g, 0, none⟩ ∧ Own w base g c xs := by
  have hl := h.len
  rcases h.2 with ⟨e, h0⟩ | ⟨g, cap, cur, e, h1, h2, h3, h4, h5, h6⟩
  · injection e with e _ _
    subst h0
    exact .inl ⟨e, List.eq_nil_of_length_eq_zero hl⟩
  · injection e with e1 e2 e3
    subst e1
    exact .inr ⟨g, rfl, h.own⟩
theorem Row.sl (h : Row w base A n c xs) : Sl w A xs := by
  rcases h.form with ⟨_, rfl⟩ | ⟨g, rfl, ho⟩
  · exact .nil
  · exact ho.sl
theorem Row.le (h : Row w base A n c xs) : n ≤ c := by
  have hl := h.len
  rcases h.2 with ⟨e, h0⟩ | ⟨g, cap, cur, e, h1, h2, h3, h4, h5, h6⟩
  · omega
  · injection e with e1 e2 e3
    subst e3
    exact h3
theorem Row.none_cap (h : Row w base none n c xs) : c = 0 := by
  rcases h.2 with ⟨e, _⟩ | ⟨g, cap, cur, e, _⟩
  · injection e
  · injection e with e _ _; cases e
theorem Row.drew (h : Row w base A n c xs) : Row w.drew base A n c xs := h
theorem Row.drewN (h : Row w base A n c xs) (k : Nat) : Row (w.drewN k) base A n c xs := h
theorem Row.lt (h : Row w base A n c xs) : ∀ g, A = some g → base ≤ g.block ∧ g.block < w.heap.size := by
  rcases h.form with ⟨rfl, _⟩ | ⟨g, rfl, ho⟩
  · intro g hg; cases hg
  · intro g' hg; cases hg; exact ⟨ho.base_le, ho.lt⟩
theorem Row.keep (h : Row w base A n c xs) (hk : ∀ g, A = some g → w'.heap[g.block]? = w.heap[g.block]?) : Row w' base A n c xs := by
  have hl := h.len
  rcases h.form with ⟨rfl, rfl⟩ | ⟨g, rfl, ho⟩
  · subst hl
    refine ⟨rfl, ?_⟩
    rcases h.2 with h2 | ⟨g, cap, cur, e, _⟩
    · exact .inl h2
    · injection e with e _ _; cases e
  · exact (ho.keep (hk _ rfl)).row hl
theorem Row.alloc (h : Row w base A n c xs) (x : Obj) : Row (w.alloc x) base A n c xs := h.keep fun g hg => Below.heap_alloc w x g.block (h.lt g hg).2
theorem Row.below {B : Nat} (h : Row w base A n c xs) (hb : Below B w w') (hB : w.heap.size ≤ B) : Row w' base A n c xs := h.keep fun g hg => hb.block g.block (by have := (h.lt g hg).2; omega)
theorem Row.ownBlock (h : Row w base A n c xs) : ∀ k, (Value.slice A n c).ownBlock = some k → base ≤ k := fun k hk => (World.ownsRow.lt h k hk).1
theorem Row.rebase {base' : Nat} (h : Row w base A n c xs) (hb : base' ≤ base) : Row w base' A n c xs := by
  have hl := h.len
  rcases h.form with ⟨rfl, rfl⟩ | ⟨g, rfl, ho⟩
  · subst hl
    refine ⟨rfl, ?_⟩
    rcases h.2 with h2 | ⟨g, cap, cur, e, _⟩
    · exact .inl h2
    · injection e with e _ _; cases e
  · exact (ho.rebase (by have := ho.base_le; omega)).row hl
end

theorem app_one {ops : Array Oper} {rest : List Oper} {o : Oper} {a : Act} {Q : Exit → Act → World → Prop} (w : World) (hgd : o.guard = none) (s x : Operand)
    (ho : o.op = Op.call { callee := Callee.builtin Builtin.append, args := #[s, x], argTypes := #[23, 23] })
    (base n c y : Nat) (A : Option Addr) (xs : List Nat) (hs : a.eval s = .slice A n c) (hown : Row w base A n c xs) (ad : Addr) (d : Nat) (hx : a.eval x = .slice (some ad) 1 d)
    (hc : w.cell? ad = some (.int .u64 (y : Int))) (hlen : n ≤ 1000000) (hbase : base ≤ w.heap.size)
    (hK : ∀ g cap w', Row w' base (some ⟨g, 0, none⟩) (n + 1) cap (xs ++ [y]) → w.grownBy w' (Value.slice A n c).ownBlock → wpList Tryz.prog ops Q rest (a.put o.dst (.slice (some ⟨g, 0, none⟩) (n + 1) cap)) w') :
    wpList Tryz.prog ops Q (o :: rest) a w := by
  obtain ⟨i, hi, hz, h1, h8⟩ := info_parts u64info
  refine wpList_append_lies w hgd s x _ ho base 119 i (.int .u64 0) 1 8 Tryz.underlying23 hi hz h1 h8 rfl (by decide) (.slice A n c) n (xs.map lv) hs hown ad 1 d [lv y] hx rfl ?_ (lv_one [y]) (by omega) (by unfold maxLen; omega) (by omega) hbase _ rfl ?_
  · intro j u hu
    cases j with
    | zero =>
      simp at hu
      subst hu
      exact hc
    | succ j => simp at hu
  · intro g cap w' h2 h3 _ _
    refine hK g cap w' ?_ h3
    unfold Row
    simpa using h2

theorem app_any {ops : Array Oper} {rest : List Oper} {o : Oper} {a : Act} {Q : Exit → Act → World → Prop} (w : World) (hgd : o.guard = none) (s x : Operand)
    (ho : o.op = Op.call { callee := Callee.builtin Builtin.append, args := #[s, x], argTypes := #[23, 23] })
    (base n c m d : Nat) (A B : Option Addr) (xs ys : List Nat) (hs : a.eval s = .slice A n c) (hown : Row w base A n c xs) (hx : a.eval x = .slice B m d)
    (hsrc : Sl w B ys) (hm : ys.length = m) (hlen : n + m ≤ 1000000) (hbase : base ≤ w.heap.size)
    (hK : ∀ A' c' w', Row w' base A' (n + m) c' (xs ++ ys) → w.grownBy w' (Value.slice A n c).ownBlock → wpList Tryz.prog ops Q rest (a.put o.dst (.slice A' (n + m) c')) w') :
    wpList Tryz.prog ops Q (o :: rest) a w := by
  obtain ⟨i, hi, hz, h1, h8⟩ := info_parts u64info
  refine wpList_plain hgd fun K hK' => ?_
  have key : ∃ A' c' w', (Builtin.append_ #[23, 23] o.type #[.slice A n c, .slice B m d]).run Tryz.prog w = .ok (.slice A' (n + m) c') w' ∧ Row w' base A' (n + m) c' (xs ++ ys) ∧ w.grownBy w' (Value.slice A n c).ownBlock := by
    rcases B with _ | ad
    · have hy : ys = [] := by
        rcases hsrc with h | ⟨_, _, h, _⟩
        · exact h
        · cases h
      subst hy
      simp only [List.length_nil] at hm
      subst hm
      refine ⟨A, c, w, ?_, by simpa using hown, World.grownBy.refl w _⟩
      rcases hown.form with ⟨rfl, rfl⟩ | ⟨g, rfl, ho'⟩
      · have hn := hown.len
        simp only [List.length_nil] at hn
        subst hn
        obtain rfl := hown.none_cap
        simp [Builtin.append_, run_underlying Tryz.underlying23, sizeOf, typeInfo, hi, Builtin.lenOf, Builtin.firstCells]
      · have hle := hown.le
        simp [Builtin.append_, run_underlying Tryz.underlying23, sizeOf, typeInfo, hi, Builtin.lenOf, Builtin.firstCells, hle, storeCells]
    · have hcells : ∀ j u, (ys.map lv)[j]? = some u → w.cell? (ad.add j) = some u := by
        intro j u hu
        rcases hsrc with rfl | ⟨b, o', e, ha⟩
        · simp at hu
        · cases e
          rw [List.getElem?_map] at hu
          have hj : j < ys.length := by
            rcases Nat.lt_or_ge j ys.length with h | h
            · exact h
            · rw [List.getElem?_eq_none h] at hu; simp at hu
          rw [List.getElem?_eq_getElem hj] at hu
          simp at hu
          subst hu
          have := ha.cell hj
          rw [lim_some hj] at this
          unfold Addr.add
          split
          · rename_i h0; subst h0; simpa [lv] using this
          · exact this
      obtain ⟨v', w', hr, h2, h3, h4, h5⟩ := run_append_own_at (P := Tryz.prog) w base 23 o.type 119 i (.int .u64 0) 1 8 Tryz.underlying23 hi hz h1 h8 rfl (by decide) (.slice A n c) n (xs.map lv) hown ad m d (ys.map lv) (by simp [hm]) hcells (lv_one ys) (by unfold maxLen; omega) (by omega) hbase
      have hf : ∃ A' c', v' = .slice A' (n + m) c' := by
        rcases h2.2 with ⟨e, h0⟩ | ⟨g, cap, cur, e, _⟩
        · exact ⟨none, 0, by rw [e, h0]⟩
        · exact ⟨_, _, e⟩
      obtain ⟨A', c', rfl⟩ := hf
      refine ⟨A', c', w', hr, ?_, h3⟩
      unfold Row
      rw [List.map_append]
      exact h2
  obtain ⟨A', c', w', hr, h2, h3⟩ := key
  unfold Oper.wp execOp
  simp only [ho, resolve, invoke, builtin, Sem.run_bind, Sem.run_pure, Result.andThen_ok, List.map_toArray, List.map_cons, List.map_nil, hs, hx, hr]
  exact hK' _ _ (hK A' c' w' h2 h3)

def Mk (w : World) (xs : List Nat) (e : Ending) (w' : World) : Prop := ∃ A c, e = .returned (.slice A xs.length c) ∧ Row w' w.heap.size A xs.length c xs ∧ Below w.heap.size w w'
def Rs (w : World) (xs : List Nat) (e : Ending) (w' : World) : Prop := ∃ A c, e = .returned (.slice A xs.length c) ∧ xs.length ≤ c ∧ c ≤ maxLen ∧ Sl w' A xs ∧ Below w.heap.size w w'
theorem Mk.intro {w w' : World} {xs ys : List Nat} {A : Option Addr} {n c : Nat} (h : Row w' w.heap.size A n c ys) (hb : Below w.heap.size w w') (e : xs = ys) : Mk w xs (.returned (.slice A n c)) w' := by
  subst e
  have := h.len
  subst this
  exact ⟨A, c, rfl, h, hb⟩
theorem Mk.trans {w w1 w' : World} {xs : List Nat} {e : Ending} (hb : Below w.heap.size w w1) (h : Mk w1 xs e w') : Mk w xs e w' := by
  obtain ⟨A, c, rfl, hr, hb'⟩ := h
  exact ⟨A, c, rfl, hr.rebase hb.size, hb.trans (hb'.mono hb.size)⟩
theorem Rs.trans {w w1 w' : World} {xs : List Nat} {e : Ending} (hb : Below w.heap.size w w1) (h : Rs w1 xs e w') : Rs w xs e w' := by
  obtain ⟨A, c, rfl, h1, h2, h3, hb'⟩ := h
  exact ⟨A, c, rfl, h1, h2, h3, hb.trans (hb'.mono hb.size)⟩
theorem Below.drewN' {B : Nat} {w w' : World} (h : Below B w w') (n : Nat) : Below B w (w'.drewN n) := ⟨h.os, h.tape, h.output, h.size, h.block⟩
theorem Rs.intro {w w' : World} {xs ys : List Nat} {A : Option Addr} {n c : Nat} (h : Sl w' A ys) (hc : n ≤ c) (hm : c ≤ maxLen) (hn : ys.length = n) (hb : Below w.heap.size w w') (e : xs = ys) : Rs w xs (.returned (.slice A n c)) w' := by
  subst e
  subst hn
  exact ⟨A, c, rfl, hc, hm, h, hb⟩
theorem Row.empty {w : World} {base : Nat} (hb : base ≤ w.heap.size) : Row (w.alloc (.cells #[] 119)) base (some ⟨w.heap.size, 0, none⟩) 0 0 [] :=
  (Own.mk (cur := #[]) hb (heap_alloc_new w _) (Nat.le_refl _) (by simp only [List.length_nil]; unfold maxLen; omega) rfl rfl).row rfl

end Nt

end Go.Proofs.YtgimmmmpollkhaaGreat
