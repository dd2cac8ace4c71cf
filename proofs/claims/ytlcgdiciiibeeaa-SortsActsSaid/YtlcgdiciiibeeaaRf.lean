/-
  The reference's declarations: what a pop leaves; names of sorts.
-/
import Derived.Test.YtlcgdiciiibeeaaRe
namespace Go.Proofs.Ytlcgdiciiibeeaa
open Go.ChangeShapes Go.RowKit
namespace Nt
set_option maxRecDepth 100000
set_option linter.unusedSimpArgs false
set_option linter.unusedVariables false
/-- An operation that wants no memory may be taken at any time. -/
theorem wpAnyT_free {P : Program} {ops : Array Oper} {Q : Exit → Act → World → Prop} {md : Region.Mode} {S : World → Prop} {t : Nat} {i : Nat} {oi : Oper} {v : Value} (hi : ops[i]? = some oi) (hsel : ∀ (j : Nat) (o : Oper) cs b, ops[j]? = some o → o.op ≠ .select cs b)
    (hQ : ∀ c a w, Q (.panic c) (a.put oi.dst v) w → Q (.panic c) a w) (hit : i ≠ t) :
    ∀ (fuel : Nat) (listed : Array Bool) (a : Act) (w : World),
      (∀ j oj, ops[j]? = some oj → j ≠ i → listed.getD j true = false → (∀ e ∈ oj.after, Region.binds md e = true → e.on ≠ i) → oi.apart ops oj = true) →
      i ∈ Region.ready md ops listed → YieldsIf P ops (fun _ => True) oi v a → (listed.getD t true = false → S w) →
      wpAnyT P md ops Q S t fuel (listed.setIfInBounds i true) (a.put oi.dst v) w → wpAnyT P md ops Q S t (fuel + 1) listed a w := by
  intro fuel
  induction fuel with
  | zero =>
    intro listed a w _ hr hy hS H
    refine ⟨fun h => (by rw [h] at hr; cases hr), fun j hj => ?_⟩
    by_cases hji : j = i
    · subst hji; exact hy.wpOp hi trivial ⟨fun h => hS (by rwa [getD_set_ne true hit] at h), H⟩
    · have := ready_mono hj hji
      rw [H.1] at this
      cases this
  | succ fuel ih =>
    intro listed a w hfree hr hy hS H
    refine ⟨fun h => (by rw [h] at hr; cases hr), fun j hj => ?_⟩
    by_cases hji : j = i
    · subst hji; exact hy.wpOp hi trivial ⟨fun h => hS (by rwa [getD_set_ne true hit] at h), H⟩
    · have h1 := H.2 j (ready_mono hj hji)
      obtain ⟨hjun, oj, hoj, hall⟩ := mem_ready.1 hj
      have hnot : ∀ e ∈ oj.after, Region.binds md e = true → e.on ≠ i := fun e he hb heq => by
        have h1 := hall e he hb
        have h0 := (mem_ready.1 hr).1
        rw [heq] at h1
        rcases Nat.lt_or_ge i listed.size with h' | h'
        · simp [h'] at h0 h1; rw [h0] at h1; cases h1
        · simp [Array.getElem?_eq_none h'] at h1
      have h2 := wpOp_putIf hoj (hfree j oj hoj hji hjun hnot) (fun cs b => hsel i oi cs b hi) (fun cs b => hsel j oj cs b hoj) hQ hy h1
      have hfree' : ∀ k ok, ops[k]? = some ok → k ≠ i → (listed.setIfInBounds j true).getD k true = false →
          (∀ e ∈ ok.after, Region.binds md e = true → e.on ≠ i) → oi.apart ops ok = true := fun k ok hk hki hun hno => by
        refine hfree k ok hk hki ?_ hno
        by_cases hjk : j = k
        · subst hjk; exact hjun
        · rw [getD_set_ne true hjk] at hun; exact hun
      have hir := ready_mono hr (Ne.symm hji)
      refine wpOp_mono (fun a' w' h3 => ?_) h2
      have hSw : (listed.setIfInBounds j true).getD t true = false → S w' := fun h => h3.2.1 (by rw [Array.setIfInBounds_comm _ _ (Ne.symm hji), getD_set_ne true hit]; exact h)
      refine ⟨hSw, ih (listed.setIfInBounds j true) a' w' hfree' hir h3.1 hSw ?_⟩
      rw [Array.setIfInBounds_comm _ _ hji]
      exact h3.2.2
theorem wpAnyT_take0 {P : Program} {ops : Array Oper} {Q : Exit → Act → World → Prop} {md : Region.Mode} {S : World → Prop} {t : Nat} {i : Nat} {oi : Oper} {v : Value} {fuel : Nat} {listed : Array Bool} {a : Act} {w : World} (hi : ops[i]? = some oi)
    (hs : Region.noSelect ops = true) (hf : Region.free md ops listed i = true) (hr : (Region.ready md ops listed).contains i = true) (hit : (i == t) = false)
    (hQ : ∀ c a w, Q (.panic c) (a.put oi.dst v) w → Q (.panic c) a w) (hy : YieldsIf P ops (fun _ => True) oi v a) (hS : listed.getD t true = false → S w)
    (h : wpAnyT P md ops Q S t fuel (listed.setIfInBounds i true) (a.put oi.dst v) w) : wpAnyT P md ops Q S t (fuel + 1) listed a w :=
  wpAnyT_free hi (Region.noSelect_spec hs) hQ (beq_eq_false_iff_ne.1 hit) fuel listed a w (Region.free_spec hi hf) (by simpa using hr) hy hS h
theorem bel_dd (w : World) : Below w.heap.size w w.drew.drew := by
  have h := bel_drew w.drew
  exact (bel_drew w).trans (h.mono (bel_drew w).size)
theorem wp_allocL {Q : Exit → Act → World → Prop} {o : Oper} {a : Act} {w : World} {K : Act → World → Prop} (ho : o.op = .alloc 78)
    (hK : ∀ w', Bk w.heap.size #[.int .i64 0, .int .i64 0] 78 w' → Below w.heap.size w w' → K (a.put o.dst (.pointer (some ⟨w.heap.size, 0, none⟩))) w') : Oper.wp Try.prog o a w K Q := by
  have h1 := hK (w.alloc (.cells #[.int .i64 0, .int .i64 0] 78)) (Bk.new _ _ _) (bel_al _ _)
  clear hK
  unfold Oper.wp
  simp only [execOp, ho]
  go_simp
  exact h1
theorem wp_storeL {Q : Exit → Act → World → Prop} {o : Oper} {a : Act} {w : World} {K : Act → World → Prop} (i j g : Nat) (x y : Int) (ho : o.op = .store 78 (.tmp i) (.tmp j)) (hi : a.tmps[i]?.getD undef = .pointer (some ⟨g, 0, none⟩)) (hj : a.tmps[j]?.getD undef = .agg #[.int .i64 x, .int .i64 y]) (hB : Bk g #[.int .i64 0, .int .i64 0] 78 w)
    (hK : ∀ w', Bk g #[.int .i64 x, .int .i64 y] 78 w' → Off [g] w w' → K (a.put o.dst undef) w') : Oper.wp Try.prog o a w K Q := by
  have h1 := hK ((w.setCell ⟨g, 0, none⟩ (.int .i64 x)).setCell ⟨g, 1, none⟩ (.int .i64 y)) ((hB.set _ rfl).set _ rfl) (((Off.refl _ _).setCell _ _ (.inl (by simp))).setCell _ _ (.inl (by simp)))
  have c0 : w.cell? ⟨g, 0, none⟩ = some (.int .i64 0) := hB.cell rfl
  have c1 : w.cell? ⟨g, 1, none⟩ = some (.int .i64 0) := hB.cell rfl
  have f0 := hB.free 0
  have f1 := hB.free 1
  clear hK hB
  unfold Oper.wp
  simp only [execOp, ho]
  go_simp
  exact h1
section
variable {Z R : List Nat} {w w' w3 : World} {r : Nat} {nm : List ByteArray} {fs : List Fn} {L : List (Nat × Nat)} {AN : Option Addr} {cN : Nat} {AF : Option Addr} {cF : Nat} {vL : Value}
theorem lcs_get : ∀ (L : List (Nat × Nat)) (l : Nat) (h : l < L.length), (lcs L)[l * 2]? = some (.int .i64 (L[l].1 : Int)) ∧ (lcs L)[l * 2 + 1]? = some (.int .i64 (L[l].2 : Int))
  | [], l, h => by simp at h
  | x :: L, 0, h => by simp [lcs]
  | x :: L, l + 1, h => by
    have := lcs_get L l (by simpa using h)
    have e1 : (l + 1) * 2 = l * 2 + 1 + 1 := by omega
    have e2 : lcs (x :: L) = .int .i64 (x.1 : Int) :: .int .i64 (x.2 : Int) :: lcs L := rfl
    rw [e1, e2]
    simpa using this
theorem lcs_len (L : List (Nat × Nat)) : (lcs L).length = L.length * 2 := by
  induction L with
  | nil => rfl
  | cons x L ih =>
    have e2 : lcs (x :: L) = .int .i64 (x.1 : Int) :: .int .i64 (x.2 : Int) :: lcs L := rfl
    rw [e2]; simp [ih]; omega
theorem lcs_take : ∀ (L : List (Nat × Nat)) (l : Nat), (lcs L).take (l * 2) = lcs (L.take l)
  | [], l => by simp [lcs]
  | x :: L, 0 => by simp [lcs]
  | x :: L, l + 1 => by
    have e1 : (l + 1) * 2 = l * 2 + 1 + 1 := by omega
    have e2 : lcs (x :: L) = .int .i64 (x.1 : Int) :: .int .i64 (x.2 : Int) :: lcs L := rfl
    have e3 : lcs ((x :: L).take (l + 1)) = .int .i64 (x.1 : Int) :: .int .i64 (x.2 : Int) :: lcs (L.take l) := rfl
    rw [e1, e2, e3, List.take_succ_cons, List.take_succ_cons, lcs_take L l]
/-- Less of a row. -/
theorem row_cut {base e size n l g cap : Nat} {xs : List Value} (h : w.ownsRow base e size (.slice (some ⟨g, 0, none⟩) n cap) n xs) (hl : l ≤ n) : w.ownsRow base e size (.slice (some ⟨g, 0, none⟩) l cap) l (xs.take (l * size)) := by
  have hm : l * size ≤ n * size := Nat.mul_le_mul_right _ hl
  refine ⟨by rw [List.length_take, h.1]; omega, ?_⟩
  rcases h.2 with ⟨e, _⟩ | ⟨g', c', cur, e, q1, q2, q3, q4, q5, q6⟩
  · cases e
  · cases e
    refine .inr ⟨g, cap, cur, rfl, q1, q2, Nat.le_trans hl q3, q4, by omega, ?_⟩
    rw [← q6, List.take_take, Nat.min_eq_left hm]
/-- What a pop leaves. -/
theorem rf_cut (h : RfP Z w r R nm fs L AN cN AF cF vL) {W : World} (hb : Below w.heap.size w W) (l a b : Nat) (hl : l < L.length) (ha : a ≤ nm.length) (hb' : b ≤ fs.length) {g cL : Nat} (hv : vL = .slice (some ⟨g, 0, none⟩) L.length cL) {W' : World}
    (hO : Off [r] W W') (hB : Bk r #[.slice AN a cN, .slice AF b cF, .slice (some ⟨g, 0, none⟩) l cL] 32 W') :
    RfP Z W' r R (nm.take a) (fs.take b) (L.take l) AN cN AF cF (.slice (some ⟨g, 0, none⟩) l cL) ∧ Off R w W' := by
  subst hv
  have hh := h.next hb
  have hrR : r ∈ R := by rw [h.eR]; simp
  have hO2 : Off R w W' := (Off.of_below hb R).trans (hO.more (T' := R) (by intro b hb; simp at hb; subst hb; exact hrR)) (fun b hb => .inl hb)
  have hsub : ∀ b ∈ R, b ∈ R ++ Z ∨ w.heap.size ≤ b := fun b hb => .inl (List.mem_append_left _ hb)
  have hl1 : (nm.take a).length = a := by rw [List.length_take]; omega
  have hl2 : (fs.take b).length = b := by rw [List.length_take]; omega
  have hl3 : (L.take l).length = l := by rw [List.length_take]; omega
  have hgr : ∀ k, (Value.slice (some ⟨g, 0, none⟩) L.length cL).ownBlock = some k → k ∉ [r] := fun k hk hm => by
    have := h.once
    rw [h.eR, List.nodup_cons] at this
    simp at hm
    subst hm
    exact this.1 (by rw [Option.mem_toList]; exact hk)
  obtain ⟨vs, g1, g2⟩ := id h.rF
  refine ⟨⟨by rw [hl1, hl2]; exact hB, ⟨by rw [hl1]; exact Nat.le_trans ha h.nN.1, h.nN.2⟩, ⟨by rw [hl2]; exact Nat.le_trans hb' h.nF.1, h.nF.2⟩, ?_, ?_, ?_, h.eR, h.once, h.ap⟩, hO2⟩
  · rw [List.map_take]; exact (h.rN.off hO2 hsub (fun b hb => .inl hb)).take a
  · exact ⟨vs.take (b * 3), (g1.off hO2 hsub (fun b hb => .inl hb)).take _, (g2.off hO2 hsub (fun b hb => .inl hb)).take _⟩
  · rw [hl3, ← lcs_take]
    exact row_cut (Off.row hh.rL hO hgr) (by omega)

set_option maxHeartbeats 8000000 in
theorem ref_pop (h : RfP Z w r R nm fs L AN cN AF cF vL) (hL : L.length ≤ 10000) (n l : Nat) (h1 : 1 ≤ n) (hl : l + n = L.length) (hl' : l < L.length) (ha : L[l].1 ≤ nm.length) (hb : L[l].2 ≤ fs.length) :
    Calls Try.prog 17 #[.pointer (some ⟨r, 0, none⟩), .int .i64 (n : Int)] w fun e w' => e = .returned (.int .i64 0) ∧ (∃ vL', RfP Z w' r R (nm.take L[l].1) (fs.take L[l].2) (L.take l) AN cN AF cF vL') ∧ Off R w w' := by
  have hrow := h.rL
  have hform : ∃ g cL, vL = .slice (some ⟨g, 0, none⟩) L.length cL ∧ L.length ≤ cL ∧ cL ≤ 9223372036854775807 := by
    rcases hrow.2 with ⟨e, h⟩ | ⟨g, cap, cu, e, _, _, q1, q2, _⟩
    · omega
    · exact ⟨_, _, e, q1, by unfold maxLen at q2; omega⟩
  obtain ⟨g, cL, rfl, hc1, hc2⟩ := hform
  obtain ⟨e0, e1⟩ := lcs_get L l hl'
  have hlw : ∀ W, Below w.heap.size w W → W.cell? ⟨r, 2, none⟩ = some (.slice (some ⟨g, 0, none⟩) L.length cL) ∧ W.cell? ⟨g, l * 2, none⟩ = some (.int .i64 (L[l].1 : Int)) ∧ W.cell? ⟨g, l * 2 + 1, none⟩ = some (.int .i64 (L[l].2 : Int)) := by
    intro W hb
    have hh := h.next hb
    have c0 := hh.rL.cells (g := g) rfl _ _ e0
    have c1 := hh.rL.cells (g := g) rfl _ _ e1
    rw [Addr.add_lit, Nat.zero_add] at c0 c1
    exact ⟨hh.bk.cell rfl, c0, c1⟩
  have hfz : ∀ W, Below w.heap.size w W → W.frozen? ⟨r, 2, none⟩ = false := fun W hb => (h.next hb).bk.free 2
  have hcut : ∀ W W2, Below w.heap.size w W → W2 = W.setCell ⟨r, 2, none⟩ (.slice (some ⟨g, 0, none⟩) l cL) → ∀ hh, w.heap.size ≤ hh → Bk hh #[.int .i64 (L[l].1 : Int), .int .i64 (L[l].2 : Int)] 78 W →
      (W2.cell? ⟨r, 0, none⟩ = some (.slice AN nm.length cN) ∧ W2.cell? ⟨r, 1, none⟩ = some (.slice AF fs.length cF) ∧ W2.cell? ⟨hh, 0, none⟩ = some (.int .i64 (L[l].1 : Int)) ∧ W2.cell? ⟨hh, 1, none⟩ = some (.int .i64 (L[l].2 : Int))) ∧ W2.frozen? ⟨r, 0, none⟩ = false ∧
      ∀ W3, W3 = W2.setCell ⟨r, 0, none⟩ (.slice AN L[l].1 cN) → (W3.cell? ⟨r, 1, none⟩ = some (.slice AF fs.length cF) ∧ W3.cell? ⟨hh, 1, none⟩ = some (.int .i64 (L[l].2 : Int)) ∧ W3.frozen? ⟨r, 1, none⟩ = false) ∧
        ∀ V, Below (W3.setCell ⟨r, 1, none⟩ (.slice AF L[l].2 cF)).heap.size (W3.setCell ⟨r, 1, none⟩ (.slice AF L[l].2 cF)) V → (RfP Z V r R (nm.take L[l].1) (fs.take L[l].2) (L.take l) AN cN AF cF (.slice (some ⟨g, 0, none⟩) l cL) ∧ Off R w V) := by
    intro W W2 hb0 hW2 hh hhw hBh
    have hp := h.next hb0
    have hrh : hh ≠ r := fun e => by subst e; have := h.bk.lt; omega
    have hB1 : Bk r #[.slice AN nm.length cN, .slice AF fs.length cF, .slice (some ⟨g, 0, none⟩) l cL] 32 W2 := by
      rw [hW2]; exact hp.bk.set _ rfl
    have hO1 : Off [r] W W2 := by
      rw [hW2]; exact (Off.refl _ _).setCell _ _ (.inl (by simp))
    have hBh1 : Bk hh #[.int .i64 (L[l].1 : Int), .int .i64 (L[l].2 : Int)] 78 W2 := hBh.off hO1 (by simpa using hrh)
    refine ⟨⟨hB1.cell rfl, hB1.cell rfl, hBh1.cell rfl, hBh1.cell rfl⟩, hB1.free 0, fun W3 hW3 => ?_⟩
    have hB3 : Bk r #[.slice AN L[l].1 cN, .slice AF fs.length cF, .slice (some ⟨g, 0, none⟩) l cL] 32 W3 := by
      rw [hW3]; exact hB1.set _ rfl
    have hO3 : Off [r] W W3 := by
      rw [hW3]; exact hO1.setCell _ _ (.inl (by simp))
    have hBh3 : Bk hh #[.int .i64 (L[l].1 : Int), .int .i64 (L[l].2 : Int)] 78 W3 := hBh.off hO3 (by simpa using hrh)
    have fin := rf_cut (W' := W3.setCell ⟨r, 1, none⟩ (.slice AF L[l].2 cF)) h hb0 l _ _ hl' ha hb rfl (hO3.setCell _ _ (.inl (by simp))) (hB3.set _ rfl)
    exact ⟨⟨hB3.cell rfl, hBh3.cell rfl, hB3.free 1⟩, fun V hV => ⟨fin.1.next hV, fin.2.trans (Off.of_below hV R) (fun b hb => .inl hb)⟩⟩
  have hN : L[l].1 ≤ cN ∧ cN ≤ 9223372036854775807 ∧ (AN = none → cN = 0) := ⟨Nat.le_trans ha h.nN.1, by have := h.nN.2.1; unfold maxLen at this; omega, h.nN.2.2⟩
  have hF : L[l].2 ≤ cF ∧ cF ≤ 9223372036854775807 ∧ (AF = none → cF = 0) := ⟨Nat.le_trans hb h.nF.1, by have := h.nF.2.1; unfold maxLen at this; omega, h.nF.2.2⟩
  have os := sub_i 3 L.length n l hl (by omega)
  have d1 : decide ((n : Int) < 0) = false := decide_eq_false (by omega)
  have d2 : decide ((L.length : Int) < (n : Int)) = false := decide_eq_false (by omega)
  have d2' : decide (L.length < n) = false := decide_eq_false (by omega)
  have d3 : ((n : Int) == 0) = false := beq_eq_false_iff_ne.2 (by omega)
  have d3' : (n == 0) = false := beq_eq_false_iff_ne.2 (by omega)
  have d3'' : n ≠ 0 := by omega
  obtain ⟨nL, hnL⟩ : ∃ x, x = L.length := ⟨_, rfl⟩
  obtain ⟨nn, hnn⟩ : ∃ x, x = nm.length := ⟨_, rfl⟩
  obtain ⟨nf, hnf⟩ : ∃ x, x = fs.length := ⟨_, rfl⟩
  obtain ⟨a, hea⟩ : ∃ x, x = L[l].1 := ⟨_, rfl⟩
  obtain ⟨b, heb⟩ : ∃ x, x = L[l].2 := ⟨_, rfl⟩
  simp only [← hnL, ← hnn, ← hnf, ← hea, ← heb] at *
  have hlc : l ≤ cL := by omega
  obtain ⟨W0, hW0⟩ : ∃ W, W = w := ⟨_, rfl⟩
  have x2 : w.cell? ⟨r, 2, none⟩ = some (.slice (some ⟨g, 0, none⟩) nL cL) := (hlw w (.refl _ _)).1
  replace hlw := hide hlw; replace hfz := hide hfz; replace hcut := hide hcut
  obtain ⟨hN1, hN2, hN3⟩ := hN
  obtain ⟨hF1, hF2, hF3⟩ := hF
  clear h hrow e0 e1 hnL hnn hnf hea heb ha hb
  have hlL : l < nL := by omega
  go_enter Try.func17, Try.ntmps17
  go_wp2
  refine wp_region_T (fun W => W.cell? ⟨r, 2, none⟩ = some (.slice (some ⟨g, 0, none⟩) nL cL) ∧ W.cell? ⟨g, l * 2, none⟩ = some (.int .i64 (a : Int)) ∧ W.cell? ⟨g, l * 2 + 1, none⟩ = some (.int .i64 (b : Int))) 14 (by kernel_rfl) (hlw.out _ (bel_drew w)) (fun hHeld => ?_)
  refine wpAnyT_take 12 (i := 0) (v := ?vvt30) (by (simp only [List.getElem?_toArray, List.getElem?_cons_zero, List.getElem?_cons_succ]) <;> rfl) (by kernel_rfl) (by kernel_rfl) (by kernel_rfl) (by kernel_rfl) (by kernel_rfl) (by rfl) ?hqt30 (Or.inl ⟨by rfl, ?hyt30⟩) (by assumption) ?_
  case hqt30 => exact fun _ _ _ h => h
  case hyt30 => ((intro w hSw; (try dsimp only at hSw); go_simp) <;> (with_reducible rfl))
  (try simp only [Act.put, List.setIfInBounds_toArray, List.set_cons_zero, List.set_cons_succ])
  refine wpAnyT_take 12 (i := 1) (v := ?vvt31) (by (simp only [List.getElem?_toArray, List.getElem?_cons_zero, List.getElem?_cons_succ]) <;> rfl) (by kernel_rfl) (by kernel_rfl) (by kernel_rfl) (by kernel_rfl) (by kernel_rfl) (by rfl) ?hqt31 (Or.inl ⟨by rfl, ?hyt31⟩) (by assumption) ?_
  case hqt31 => exact fun _ _ _ h => h
  case hyt31 => ((intro w hSw; (try dsimp only at hSw); go_simp) <;> (with_reducible rfl))
  (try simp only [Act.put, List.setIfInBounds_toArray, List.set_cons_zero, List.set_cons_succ])
  refine wpAnyT_take 12 (i := 2) (v := ?vvt32) (by (simp only [List.getElem?_toArray, List.getElem?_cons_zero, List.getElem?_cons_succ]) <;> rfl) (by kernel_rfl) (by kernel_rfl) (by kernel_rfl) (by kernel_rfl) (by kernel_rfl) (by rfl) ?hqt32 (Or.inl ⟨by rfl, ?hyt32⟩) (by assumption) ?_
  case hqt32 => exact fun _ _ _ h => h
  case hyt32 => ((intro w hSw; (try dsimp only at hSw); go_simp) <;> (with_reducible rfl))
  (try simp only [Act.put, List.setIfInBounds_toArray, List.set_cons_zero, List.set_cons_succ])
  refine wpAnyT_take 12 (i := 3) (v := ?vvt33) (by (simp only [List.getElem?_toArray, List.getElem?_cons_zero, List.getElem?_cons_succ]) <;> rfl) (by kernel_rfl) (by kernel_rfl) (by kernel_rfl) (by kernel_rfl) (by kernel_rfl) (by rfl) ?hqt33 (Or.inl ⟨by rfl, ?hyt33⟩) (by assumption) ?_
  case hqt33 => exact fun _ _ _ h => h
  case hyt33 => ((intro w hSw; (try dsimp only at hSw); go_simp) <;> (with_reducible rfl))
  (try simp only [Act.put, List.setIfInBounds_toArray, List.set_cons_zero, List.set_cons_succ])
  refine wpAnyT_take 12 (i := 4) (v := ?vvt34) (by (simp only [List.getElem?_toArray, List.getElem?_cons_zero, List.getElem?_cons_succ]) <;> rfl) (by kernel_rfl) (by kernel_rfl) (by kernel_rfl) (by kernel_rfl) (by kernel_rfl) (by rfl) ?hqt34 (Or.inl ⟨by rfl, ?hyt34⟩) (by assumption) ?_
  case hqt34 => exact fun _ _ _ h => h
  case hyt34 => ((intro w hSw; (try dsimp only at hSw); go_simp) <;> (with_reducible rfl))
  (try simp only [Act.put, List.setIfInBounds_toArray, List.set_cons_zero, List.set_cons_succ])
  refine wpAnyT_take 12 (i := 5) (v := ?vvt35) (by (simp only [List.getElem?_toArray, List.getElem?_cons_zero, List.getElem?_cons_succ]) <;> rfl) (by kernel_rfl) (by kernel_rfl) (by kernel_rfl) (by kernel_rfl) (by kernel_rfl) (by rfl) ?hqt35 (Or.inl ⟨by rfl, ?hyt35⟩) (by assumption) ?_
  case hqt35 => exact fun _ _ _ h => h
  case hyt35 => ((intro w hSw; (try dsimp only at hSw); go_simp) <;> (with_reducible rfl))
  (try simp only [Act.put, List.setIfInBounds_toArray, List.set_cons_zero, List.set_cons_succ])
  refine wpAnyT_take 12 (i := 6) (v := ?vvt36) (by (simp only [List.getElem?_toArray, List.getElem?_cons_zero, List.getElem?_cons_succ]) <;> rfl) (by kernel_rfl) (by kernel_rfl) (by kernel_rfl) (by kernel_rfl) (by kernel_rfl) (by rfl) ?hqt36 (Or.inl ⟨by rfl, ?hyt36⟩) (by assumption) ?_
  case hqt36 => exact fun _ _ _ h => h
  case hyt36 => ((intro w hSw; (try dsimp only at hSw); go_simp) <;> (with_reducible rfl))
  (try simp only [Act.put, List.setIfInBounds_toArray, List.set_cons_zero, List.set_cons_succ])
  refine wpAnyT_take 12 (i := 7) (v := ?vvt37) (by (simp only [List.getElem?_toArray, List.getElem?_cons_zero, List.getElem?_cons_succ]) <;> rfl) (by kernel_rfl) (by kernel_rfl) (by kernel_rfl) (by kernel_rfl) (by kernel_rfl) (by rfl) ?hqt37 (Or.inl ⟨by rfl, ?hyt37⟩) (by assumption) ?_
  case hqt37 => exact fun _ _ _ h => h
  case hyt37 => ((intro w hSw; (try dsimp only at hSw); go_simp) <;> (with_reducible rfl))
  (try simp only [Act.put, List.setIfInBounds_toArray, List.set_cons_zero, List.set_cons_succ])
  refine wpAnyT_take 12 (i := 8) (v := ?vvt38) (by (simp only [List.getElem?_toArray, List.getElem?_cons_zero, List.getElem?_cons_succ]) <;> rfl) (by kernel_rfl) (by kernel_rfl) (by kernel_rfl) (by kernel_rfl) (by kernel_rfl) (by rfl) ?hqt38 (Or.inl ⟨by rfl, ?hyt38⟩) (by assumption) ?_
  case hqt38 => exact fun _ _ _ h => h
  case hyt38 => ((intro w hSw; (try dsimp only at hSw); go_simp) <;> (with_reducible rfl))
  (try simp only [Act.put, List.setIfInBounds_toArray, List.set_cons_zero, List.set_cons_succ])
  refine wpAnyT_take 12 (i := 9) (v := ?vvt39) (by (simp only [List.getElem?_toArray, List.getElem?_cons_zero, List.getElem?_cons_succ]) <;> rfl) (by kernel_rfl) (by kernel_rfl) (by kernel_rfl) (by kernel_rfl) (by kernel_rfl) (by rfl) ?hqt39 (Or.inl ⟨by rfl, ?hyt39⟩) (by assumption) ?_
  case hqt39 => exact fun _ _ _ h => h
  case hyt39 => ((intro w hSw; (try dsimp only at hSw); go_simp) <;> (with_reducible rfl))
  (try simp only [Act.put, List.setIfInBounds_toArray, List.set_cons_zero, List.set_cons_succ])
  refine wpAnyT_take 12 (i := 10) (v := ?vvt40) (by (simp only [List.getElem?_toArray, List.getElem?_cons_zero, List.getElem?_cons_succ]) <;> rfl) (by kernel_rfl) (by kernel_rfl) (by kernel_rfl) (by kernel_rfl) (by kernel_rfl) (by rfl) ?hqt40 (Or.inl ⟨by rfl, ?hyt40⟩) (by assumption) ?_
  case hqt40 => exact fun _ _ _ h => h
  case hyt40 => ((intro w hSw; (try dsimp only at hSw); go_simp) <;> (with_reducible rfl))
  (try simp only [Act.put, List.setIfInBounds_toArray, List.set_cons_zero, List.set_cons_succ])
  refine wpAnyT_take 12 (i := 11) (v := ?vvt41) (by (simp only [List.getElem?_toArray, List.getElem?_cons_zero, List.getElem?_cons_succ]) <;> rfl) (by kernel_rfl) (by kernel_rfl) (by kernel_rfl) (by kernel_rfl) (by kernel_rfl) (by rfl) ?hqt41 (Or.inl ⟨by rfl, ?hyt41⟩) (by assumption) ?_
  case hqt41 => exact fun _ _ _ h => h
  case hyt41 => ((intro w hSw; (try dsimp only at hSw); go_simp) <;> (with_reducible rfl))
  (try simp only [Act.put, List.setIfInBounds_toArray, List.set_cons_zero, List.set_cons_succ])
  refine wpAnyT_take 12 (i := 12) (v := ?vvt42) (by (simp only [List.getElem?_toArray, List.getElem?_cons_zero, List.getElem?_cons_succ]) <;> rfl) (by kernel_rfl) (by kernel_rfl) (by kernel_rfl) (by kernel_rfl) (by kernel_rfl) (by rfl) ?hqt42 (Or.inl ⟨by rfl, ?hyt42⟩) (by assumption) ?_
  case hqt42 => exact fun _ _ _ h => h
  case hyt42 => ((intro w hSw; (try dsimp only at hSw); go_simp) <;> (with_reducible rfl))
  (try simp only [Act.put, List.setIfInBounds_toArray, List.set_cons_zero, List.set_cons_succ])
  refine wpAnyT_ready (rs := [13]) (by kernel_rfl) (by simp) ?_
  refine (AllReadyT.cons (by (simp only [List.getElem?_toArray, List.getElem?_cons_zero, List.getElem?_cons_succ]) <;> rfl) (fun K hK => ?_) AllReadyT.nil)
  rw [if_pos (by rfl)]
  refine wp_allocL rfl ?_
  intro W13 hB13 hb13
  have hk13 := hlw.out W13 ((bel_drew w).trans (hb13.mono (bel_drew w).size))
  have hbb13 := hide ((bel_drew w).trans (hb13.mono (bel_drew w).size))
  replace hB13 := hide hB13
  clear hb13
  refine hK.out _ _ (hk13) (fun hHeld => ?_)
  (try clear hK K)
  (try simp only [Act.put, List.setIfInBounds_toArray, List.set_cons_zero, List.set_cons_succ])
  refine wpAnyT_ready (rs := [14]) (by kernel_rfl) (by simp) ?_
  refine (AllReadyT.last (by (simp only [List.getElem?_toArray, List.getElem?_cons_zero, List.getElem?_cons_succ]) <;> rfl) (by kernel_rfl) (fun K hK => ?_) AllReadyT.nil)
  rw [if_pos (by rfl)]
  refine wp_storeL 5 32 _ (a : Int) (b : Int) rfl rfl rfl hB13.out ?_
  intro W14 hB14 hO14
  have hb14 := hide (hbb13.out.trans (hO14.below hbb13.out.size (by intro b hb; simp at hb; omega)))
  replace hB14 := hide hB14
  clear hO14
  refine hK.out _ _ ?_
  (try clear hK K)
  (try simp only [Act.put, List.setIfInBounds_toArray, List.set_cons_zero, List.set_cons_succ])
  refine wpAnyT_done (by kernel_rfl) ?_ _
  (try clear hHeld)
  have x8 := (hlw.out _ hb14.out).1
  have f8 := hfz.out _ hb14.out
  (try go_wp2)
  refine wp_region_T (fun W => W.cell? ⟨r, 2, none⟩ = some (.slice (some ⟨g, 0, none⟩) nL cL)) 15 (by kernel_rfl) (x8) (fun hHeld => ?_)
  refine wpAnyT_take 12 (i := 0) (v := ?vvt15) (by (simp only [List.getElem?_toArray, List.getElem?_cons_zero, List.getElem?_cons_succ]) <;> rfl) (by kernel_rfl) (by kernel_rfl) (by kernel_rfl) (by kernel_rfl) (by kernel_rfl) (by rfl) ?hqt15 (Or.inl ⟨by rfl, ?hyt15⟩) (by assumption) ?_
  case hqt15 => exact fun _ _ _ h => h
  case hyt15 => ((intro w hSw; (try dsimp only at hSw); go_simp) <;> (with_reducible rfl))
  (try simp only [Act.put, List.setIfInBounds_toArray, List.set_cons_zero, List.set_cons_succ])
  refine wpAnyT_take 12 (i := 1) (v := ?vvt16) (by (simp only [List.getElem?_toArray, List.getElem?_cons_zero, List.getElem?_cons_succ]) <;> rfl) (by kernel_rfl) (by kernel_rfl) (by kernel_rfl) (by kernel_rfl) (by kernel_rfl) (by rfl) ?hqt16 (Or.inl ⟨by rfl, ?hyt16⟩) (by assumption) ?_
  case hqt16 => exact fun _ _ _ h => h
  case hyt16 => ((intro w hSw; (try dsimp only at hSw); go_simp) <;> (with_reducible rfl))
  (try simp only [Act.put, List.setIfInBounds_toArray, List.set_cons_zero, List.set_cons_succ])
  refine wpAnyT_take 12 (i := 2) (v := ?vvt17) (by (simp only [List.getElem?_toArray, List.getElem?_cons_zero, List.getElem?_cons_succ]) <;> rfl) (by kernel_rfl) (by kernel_rfl) (by kernel_rfl) (by kernel_rfl) (by kernel_rfl) (by rfl) ?hqt17 (Or.inl ⟨by rfl, ?hyt17⟩) (by assumption) ?_
  case hqt17 => exact fun _ _ _ h => h
  case hyt17 => ((intro w hSw; (try dsimp only at hSw); go_simp) <;> (with_reducible rfl))
  (try simp only [Act.put, List.setIfInBounds_toArray, List.set_cons_zero, List.set_cons_succ])
  refine wpAnyT_take 12 (i := 3) (v := ?vvt18) (by (simp only [List.getElem?_toArray, List.getElem?_cons_zero, List.getElem?_cons_succ]) <;> rfl) (by kernel_rfl) (by kernel_rfl) (by kernel_rfl) (by kernel_rfl) (by kernel_rfl) (by rfl) ?hqt18 (Or.inl ⟨by rfl, ?hyt18⟩) (by assumption) ?_
  case hqt18 => exact fun _ _ _ h => h
  case hyt18 => ((intro w hSw; (try dsimp only at hSw); go_simp) <;> (with_reducible rfl))
  (try simp only [Act.put, List.setIfInBounds_toArray, List.set_cons_zero, List.set_cons_succ])
  refine wpAnyT_take 12 (i := 4) (v := ?vvt19) (by (simp only [List.getElem?_toArray, List.getElem?_cons_zero, List.getElem?_cons_succ]) <;> rfl) (by kernel_rfl) (by kernel_rfl) (by kernel_rfl) (by kernel_rfl) (by kernel_rfl) (by rfl) ?hqt19 (Or.inl ⟨by rfl, ?hyt19⟩) (by assumption) ?_
  case hqt19 => exact fun _ _ _ h => h
  case hyt19 => ((intro w hSw; (try dsimp only at hSw); go_simp) <;> (with_reducible rfl))
  (try simp only [Act.put, List.setIfInBounds_toArray, List.set_cons_zero, List.set_cons_succ])
  refine wpAnyT_take 12 (i := 5) (v := ?vvt20) (by (simp only [List.getElem?_toArray, List.getElem?_cons_zero, List.getElem?_cons_succ]) <;> rfl) (by kernel_rfl) (by kernel_rfl) (by kernel_rfl) (by kernel_rfl) (by kernel_rfl) (by rfl) ?hqt20 (Or.inl ⟨by rfl, ?hyt20⟩) (by assumption) ?_
  case hqt20 => exact fun _ _ _ h => h
  case hyt20 => ((intro w hSw; (try dsimp only at hSw); go_simp) <;> (with_reducible rfl))
  (try simp only [Act.put, List.setIfInBounds_toArray, List.set_cons_zero, List.set_cons_succ])
  refine wpAnyT_take 12 (i := 6) (v := ?vvt21) (by (simp only [List.getElem?_toArray, List.getElem?_cons_zero, List.getElem?_cons_succ]) <;> rfl) (by kernel_rfl) (by kernel_rfl) (by kernel_rfl) (by kernel_rfl) (by kernel_rfl) (by rfl) ?hqt21 (Or.inl ⟨by rfl, ?hyt21⟩) (by assumption) ?_
  case hqt21 => exact fun _ _ _ h => h
  case hyt21 => ((intro w hSw; (try dsimp only at hSw); go_simp) <;> (with_reducible rfl))
  (try simp only [Act.put, List.setIfInBounds_toArray, List.set_cons_zero, List.set_cons_succ])
  refine wpAnyT_take 12 (i := 7) (v := ?vvt22) (by (simp only [List.getElem?_toArray, List.getElem?_cons_zero, List.getElem?_cons_succ]) <;> rfl) (by kernel_rfl) (by kernel_rfl) (by kernel_rfl) (by kernel_rfl) (by kernel_rfl) (by rfl) ?hqt22 (Or.inl ⟨by rfl, ?hyt22⟩) (by assumption) ?_
  case hqt22 => exact fun _ _ _ h => h
  case hyt22 => ((intro w hSw; (try dsimp only at hSw); go_simp) <;> (with_reducible rfl))
  (try simp only [Act.put, List.setIfInBounds_toArray, List.set_cons_zero, List.set_cons_succ])
  refine wpAnyT_take 12 (i := 8) (v := ?vvt23) (by (simp only [List.getElem?_toArray, List.getElem?_cons_zero, List.getElem?_cons_succ]) <;> rfl) (by kernel_rfl) (by kernel_rfl) (by kernel_rfl) (by kernel_rfl) (by kernel_rfl) (by rfl) ?hqt23 (Or.inl ⟨by rfl, ?hyt23⟩) (by assumption) ?_
  case hqt23 => exact fun _ _ _ h => h
  case hyt23 => ((intro w hSw; (try dsimp only at hSw); go_simp) <;> (with_reducible rfl))
  (try simp only [Act.put, List.setIfInBounds_toArray, List.set_cons_zero, List.set_cons_succ])
  refine wpAnyT_take 12 (i := 9) (v := ?vvt24) (by (simp only [List.getElem?_toArray, List.getElem?_cons_zero, List.getElem?_cons_succ]) <;> rfl) (by kernel_rfl) (by kernel_rfl) (by kernel_rfl) (by kernel_rfl) (by kernel_rfl) (by rfl) ?hqt24 (Or.inl ⟨by rfl, ?hyt24⟩) (by assumption) ?_
  case hqt24 => exact fun _ _ _ h => h
  case hyt24 => ((intro w hSw; (try dsimp only at hSw); go_simp) <;> (with_reducible rfl))
  (try simp only [Act.put, List.setIfInBounds_toArray, List.set_cons_zero, List.set_cons_succ])
  refine wpAnyT_take 12 (i := 10) (v := ?vvt25) (by (simp only [List.getElem?_toArray, List.getElem?_cons_zero, List.getElem?_cons_succ]) <;> rfl) (by kernel_rfl) (by kernel_rfl) (by kernel_rfl) (by kernel_rfl) (by kernel_rfl) (by rfl) ?hqt25 (Or.inl ⟨by rfl, ?hyt25⟩) (by assumption) ?_
  case hqt25 => exact fun _ _ _ h => h
  case hyt25 => ((intro w hSw; (try dsimp only at hSw); go_simp) <;> (with_reducible rfl))
  (try simp only [Act.put, List.setIfInBounds_toArray, List.set_cons_zero, List.set_cons_succ])
  refine wpAnyT_take 12 (i := 11) (v := ?vvt26) (by (simp only [List.getElem?_toArray, List.getElem?_cons_zero, List.getElem?_cons_succ]) <;> rfl) (by kernel_rfl) (by kernel_rfl) (by kernel_rfl) (by kernel_rfl) (by kernel_rfl) (by rfl) ?hqt26 (Or.inl ⟨by rfl, ?hyt26⟩) (by assumption) ?_
  case hqt26 => exact fun _ _ _ h => h
  case hyt26 => ((intro w hSw; (try dsimp only at hSw); go_simp) <;> (with_reducible rfl))
  (try simp only [Act.put, List.setIfInBounds_toArray, List.set_cons_zero, List.set_cons_succ])
  refine wpAnyT_take 12 (i := 12) (v := ?vvt27) (by (simp only [List.getElem?_toArray, List.getElem?_cons_zero, List.getElem?_cons_succ]) <;> rfl) (by kernel_rfl) (by kernel_rfl) (by kernel_rfl) (by kernel_rfl) (by kernel_rfl) (by rfl) ?hqt27 (Or.inl ⟨by rfl, ?hyt27⟩) (by assumption) ?_
  case hqt27 => exact fun _ _ _ h => h
  case hyt27 => ((intro w hSw; (try dsimp only at hSw); go_simp) <;> (with_reducible rfl))
  (try simp only [Act.put, List.setIfInBounds_toArray, List.set_cons_zero, List.set_cons_succ])
  refine wpAnyT_take 12 (i := 13) (v := ?vvt28) (by (simp only [List.getElem?_toArray, List.getElem?_cons_zero, List.getElem?_cons_succ]) <;> rfl) (by kernel_rfl) (by kernel_rfl) (by kernel_rfl) (by kernel_rfl) (by kernel_rfl) (by rfl) ?hqt28 (Or.inl ⟨by rfl, ?hyt28⟩) (by assumption) ?_
  case hqt28 => exact fun _ _ _ h => h
  case hyt28 => ((intro w hSw; (try dsimp only at hSw); go_simp) <;> (with_reducible rfl))
  (try simp only [Act.put, List.setIfInBounds_toArray, List.set_cons_zero, List.set_cons_succ])
  refine wpAnyT_take 12 (i := 14) (v := ?vvt29) (by (simp only [List.getElem?_toArray, List.getElem?_cons_zero, List.getElem?_cons_succ]) <;> rfl) (by kernel_rfl) (by kernel_rfl) (by kernel_rfl) (by kernel_rfl) (by kernel_rfl) (by rfl) ?hqt29 (Or.inl ⟨by rfl, ?hyt29⟩) (by assumption) ?_
  case hqt29 => exact fun _ _ _ h => h
  case hyt29 => ((intro w hSw; (try dsimp only at hSw); go_simp) <;> (with_reducible rfl))
  (try simp only [Act.put, List.setIfInBounds_toArray, List.set_cons_zero, List.set_cons_succ])
  refine wpAnyT_ready (rs := [15]) (by kernel_rfl) (by simp) ?_
  refine (AllReadyT.last (by (simp only [List.getElem?_toArray, List.getElem?_cons_zero, List.getElem?_cons_succ]) <;> rfl) (by kernel_rfl) (fun K hK => ?_) AllReadyT.nil)
  go_simp
  refine hK.out _ _ ?_
  (try clear hK K)
  (try simp only [Act.put, List.setIfInBounds_toArray, List.set_cons_zero, List.set_cons_succ])
  refine wpAnyT_done (by kernel_rfl) ?_ _
  (try clear hHeld)
  obtain ⟨W2, hW2⟩ : ∃ W, W = W14.setCell ⟨r, 2, none⟩ (.slice (some ⟨g, 0, none⟩) l cL) := ⟨_, rfl⟩
  (try rw [← hW2])
  obtain ⟨j1, j2, j3⟩ := hcut.out W14 W2 hb14.out hW2 w.heap.size (Nat.le_refl _) hB14.out
  obtain ⟨⟨k1, k2, k3⟩, kf⟩ := j3 _ rfl
  obtain ⟨j4, j5, j6, j7⟩ := id j1
  replace kf := hide kf
  replace hW2 := hide hW2
  clear j3
  (try go_wp2)
  refine wp_region_T (fun W => W.cell? ⟨r, 0, none⟩ = some (.slice AN nn cN) ∧ W.cell? ⟨r, 1, none⟩ = some (.slice AF nf cF) ∧ W.cell? ⟨w.heap.size, 0, none⟩ = some (.int .i64 (a : Int)) ∧ W.cell? ⟨w.heap.size, 1, none⟩ = some (.int .i64 (b : Int))) 18 (by kernel_rfl) (j1) (fun hHeld => ?_)
  refine wpAnyT_take 12 (i := 0) (v := ?vvt1) (by (simp only [List.getElem?_toArray, List.getElem?_cons_zero, List.getElem?_cons_succ]) <;> rfl) (by kernel_rfl) (by kernel_rfl) (by kernel_rfl) (by kernel_rfl) (by kernel_rfl) (by rfl) ?hqt1 (Or.inl ⟨by rfl, ?hyt1⟩) (by assumption) ?_
  case hqt1 => exact fun _ _ _ h => h
  case hyt1 => ((intro w hSw; (try dsimp only at hSw); go_simp) <;> (with_reducible rfl))
  (try simp only [Act.put, List.setIfInBounds_toArray, List.set_cons_zero, List.set_cons_succ])
  refine wpAnyT_take 12 (i := 2) (v := ?vvt2) (by (simp only [List.getElem?_toArray, List.getElem?_cons_zero, List.getElem?_cons_succ]) <;> rfl) (by kernel_rfl) (by kernel_rfl) (by kernel_rfl) (by kernel_rfl) (by kernel_rfl) (by rfl) ?hqt2 (Or.inl ⟨by rfl, ?hyt2⟩) (by assumption) ?_
  case hqt2 => exact fun _ _ _ h => h
  case hyt2 => ((intro w hSw; (try dsimp only at hSw); go_simp) <;> (with_reducible rfl))
  (try simp only [Act.put, List.setIfInBounds_toArray, List.set_cons_zero, List.set_cons_succ])
  refine wpAnyT_take 12 (i := 3) (v := ?vvt3) (by (simp only [List.getElem?_toArray, List.getElem?_cons_zero, List.getElem?_cons_succ]) <;> rfl) (by kernel_rfl) (by kernel_rfl) (by kernel_rfl) (by kernel_rfl) (by kernel_rfl) (by rfl) ?hqt3 (Or.inl ⟨by rfl, ?hyt3⟩) (by assumption) ?_
  case hqt3 => exact fun _ _ _ h => h
  case hyt3 => ((intro w hSw; (try dsimp only at hSw); go_simp) <;> (with_reducible rfl))
  (try simp only [Act.put, List.setIfInBounds_toArray, List.set_cons_zero, List.set_cons_succ])
  refine wpAnyT_take 12 (i := 4) (v := ?vvt4) (by (simp only [List.getElem?_toArray, List.getElem?_cons_zero, List.getElem?_cons_succ]) <;> rfl) (by kernel_rfl) (by kernel_rfl) (by kernel_rfl) (by kernel_rfl) (by kernel_rfl) (by rfl) ?hqt4 (Or.inl ⟨by rfl, ?hyt4⟩) (by assumption) ?_
  case hqt4 => exact fun _ _ _ h => h
  case hyt4 => ((intro w hSw; (try dsimp only at hSw); go_simp) <;> (with_reducible rfl))
  (try simp only [Act.put, List.setIfInBounds_toArray, List.set_cons_zero, List.set_cons_succ])
  refine wpAnyT_take 12 (i := 5) (v := ?vvt5) (by (simp only [List.getElem?_toArray, List.getElem?_cons_zero, List.getElem?_cons_succ]) <;> rfl) (by kernel_rfl) (by kernel_rfl) (by kernel_rfl) (by kernel_rfl) (by kernel_rfl) (by rfl) ?hqt5 (Or.inl ⟨by rfl, ?hyt5⟩) (by assumption) ?_
  case hqt5 => exact fun _ _ _ h => h
  case hyt5 => ((intro w hSw; (try dsimp only at hSw); go_simp) <;> (with_reducible rfl))
  (try simp only [Act.put, List.setIfInBounds_toArray, List.set_cons_zero, List.set_cons_succ])
  refine wpAnyT_take 12 (i := 6) (v := ?vvt6) (by (simp only [List.getElem?_toArray, List.getElem?_cons_zero, List.getElem?_cons_succ]) <;> rfl) (by kernel_rfl) (by kernel_rfl) (by kernel_rfl) (by kernel_rfl) (by kernel_rfl) (by rfl) ?hqt6 (Or.inl ⟨by rfl, ?hyt6⟩) (by assumption) ?_
  case hqt6 => exact fun _ _ _ h => h
  case hyt6 => ((intro w hSw; (try dsimp only at hSw); go_simp) <;> (with_reducible rfl))
  (try simp only [Act.put, List.setIfInBounds_toArray, List.set_cons_zero, List.set_cons_succ])
  refine wpAnyT_take 12 (i := 7) (v := ?vvt7) (by (simp only [List.getElem?_toArray, List.getElem?_cons_zero, List.getElem?_cons_succ]) <;> rfl) (by kernel_rfl) (by kernel_rfl) (by kernel_rfl) (by kernel_rfl) (by kernel_rfl) (by rfl) ?hqt7 (Or.inl ⟨by rfl, ?hyt7⟩) (by assumption) ?_
  case hqt7 => exact fun _ _ _ h => h
  case hyt7 => ((intro w hSw; (try dsimp only at hSw); go_simp) <;> (with_reducible rfl))
  (try simp only [Act.put, List.setIfInBounds_toArray, List.set_cons_zero, List.set_cons_succ])
  refine wpAnyT_take 12 (i := 8) (v := ?vvt8) (by (simp only [List.getElem?_toArray, List.getElem?_cons_zero, List.getElem?_cons_succ]) <;> rfl) (by kernel_rfl) (by kernel_rfl) (by kernel_rfl) (by kernel_rfl) (by kernel_rfl) (by rfl) ?hqt8 (Or.inl ⟨by rfl, ?hyt8⟩) (by assumption) ?_
  case hqt8 => exact fun _ _ _ h => h
  case hyt8 => ((intro w hSw; (try dsimp only at hSw); go_simp) <;> (with_reducible rfl))
  (try simp only [Act.put, List.setIfInBounds_toArray, List.set_cons_zero, List.set_cons_succ])
  refine wpAnyT_take 12 (i := 9) (v := ?vvt9) (by (simp only [List.getElem?_toArray, List.getElem?_cons_zero, List.getElem?_cons_succ]) <;> rfl) (by kernel_rfl) (by kernel_rfl) (by kernel_rfl) (by kernel_rfl) (by kernel_rfl) (by rfl) ?hqt9 (Or.inl ⟨by rfl, ?hyt9⟩) (by assumption) ?_
  case hqt9 => exact fun _ _ _ h => h
  case hyt9 => ((intro w hSw; (try dsimp only at hSw); go_simp) <;> (with_reducible rfl))
  (try simp only [Act.put, List.setIfInBounds_toArray, List.set_cons_zero, List.set_cons_succ])
  refine wpAnyT_take 12 (i := 10) (v := ?vvt10) (by (simp only [List.getElem?_toArray, List.getElem?_cons_zero, List.getElem?_cons_succ]) <;> rfl) (by kernel_rfl) (by kernel_rfl) (by kernel_rfl) (by kernel_rfl) (by kernel_rfl) (by rfl) ?hqt10 (Or.inl ⟨by rfl, ?hyt10⟩) (by assumption) ?_
  case hqt10 => exact fun _ _ _ h => h
  case hyt10 => ((intro w hSw; (try dsimp only at hSw); go_simp) <;> (with_reducible rfl))
  (try simp only [Act.put, List.setIfInBounds_toArray, List.set_cons_zero, List.set_cons_succ])
  refine wpAnyT_take 12 (i := 11) (v := ?vvt11) (by (simp only [List.getElem?_toArray, List.getElem?_cons_zero, List.getElem?_cons_succ]) <;> rfl) (by kernel_rfl) (by kernel_rfl) (by kernel_rfl) (by kernel_rfl) (by kernel_rfl) (by rfl) ?hqt11 (Or.inl ⟨by rfl, ?hyt11⟩) (by assumption) ?_
  case hqt11 => exact fun _ _ _ h => h
  case hyt11 => ((intro w hSw; (try dsimp only at hSw); go_simp) <;> (with_reducible rfl))
  (try simp only [Act.put, List.setIfInBounds_toArray, List.set_cons_zero, List.set_cons_succ])
  refine wpAnyT_take 12 (i := 12) (v := ?vvt12) (by (simp only [List.getElem?_toArray, List.getElem?_cons_zero, List.getElem?_cons_succ]) <;> rfl) (by kernel_rfl) (by kernel_rfl) (by kernel_rfl) (by kernel_rfl) (by kernel_rfl) (by rfl) ?hqt12 (Or.inl ⟨by rfl, ?hyt12⟩) (by assumption) ?_
  case hqt12 => exact fun _ _ _ h => h
  case hyt12 => ((intro w hSw; (try dsimp only at hSw); go_simp) <;> (with_reducible rfl))
  (try simp only [Act.put, List.setIfInBounds_toArray, List.set_cons_zero, List.set_cons_succ])
  refine wpAnyT_take0 (i := 1) (v := ?vvz1) (by (simp only [List.getElem?_toArray, List.getElem?_cons_zero, List.getElem?_cons_succ]) <;> rfl) (by kernel_rfl) (by kernel_rfl) (by kernel_rfl) (by kernel_rfl) ?hqz1 (Or.inl ⟨by rfl, ?hyz1⟩) (fun _ => hHeld) ?_
  case hqz1 => exact fun _ _ _ h => h
  case hyz1 => ((intro w hSw; clear hSw; go_simp) <;> (with_reducible rfl))
  (try simp only [Act.put, List.setIfInBounds_toArray, List.set_cons_zero, List.set_cons_succ])
  refine wpAnyT_take0 (i := 13) (v := ?vvz2) (by (simp only [List.getElem?_toArray, List.getElem?_cons_zero, List.getElem?_cons_succ]) <;> rfl) (by kernel_rfl) (by kernel_rfl) (by kernel_rfl) (by kernel_rfl) ?hqz2 (Or.inl ⟨by rfl, ?hyz2⟩) (fun _ => hHeld) ?_
  case hqz2 => exact fun _ _ _ h => h
  case hyz2 => ((intro w hSw; clear hSw; go_simp) <;> (with_reducible rfl))
  (try simp only [Act.put, List.setIfInBounds_toArray, List.set_cons_zero, List.set_cons_succ])
  refine wpAnyT_take 12 (i := 16) (v := ?vvt13) (by (simp only [List.getElem?_toArray, List.getElem?_cons_zero, List.getElem?_cons_succ]) <;> rfl) (by kernel_rfl) (by kernel_rfl) (by kernel_rfl) (by kernel_rfl) (by kernel_rfl) (by rfl) ?hqt13 (Or.inl ⟨by rfl, ?hyt13⟩) (by assumption) ?_
  case hqt13 => exact fun _ _ _ h => h
  case hyt13 => ((intro w hSw; (try dsimp only at hSw); go_simp) <;> (with_reducible rfl))
  (try simp only [Act.put, List.setIfInBounds_toArray, List.set_cons_zero, List.set_cons_succ])
  refine wpAnyT_take 12 (i := 17) (v := ?vvt14) (by (simp only [List.getElem?_toArray, List.getElem?_cons_zero, List.getElem?_cons_succ]) <;> rfl) (by kernel_rfl) (by kernel_rfl) (by kernel_rfl) (by kernel_rfl) (by kernel_rfl) (by rfl) ?hqt14 (Or.inl ⟨by rfl, ?hyt14⟩) (by assumption) ?_
  case hqt14 => exact fun _ _ _ h => h
  case hyt14 => ((intro w hSw; (try dsimp only at hSw); go_simp) <;> (with_reducible rfl))
  (try simp only [Act.put, List.setIfInBounds_toArray, List.set_cons_zero, List.set_cons_succ])
  refine wpAnyT_ready (rs := [14, 18]) (by kernel_rfl) (by simp) ?_
  refine (AllReadyT.cons (by (simp only [List.getElem?_toArray, List.getElem?_cons_zero, List.getElem?_cons_succ]) <;> rfl) (fun K hK => ?_) (AllReadyT.last (by (simp only [List.getElem?_toArray, List.getElem?_cons_zero, List.getElem?_cons_succ]) <;> rfl) (by kernel_rfl) (fun K hK => ?_) AllReadyT.nil))
  · go_simp
    refine hK.out _ _ hHeld (fun hHeld => ?_)
    (try clear hK K)
    (try simp only [Act.put, List.setIfInBounds_toArray, List.set_cons_zero, List.set_cons_succ])
    refine wpAnyT_ready (rs := [15, 18]) (by kernel_rfl) (by simp) ?_
    refine (AllReadyT.cons (by (simp only [List.getElem?_toArray, List.getElem?_cons_zero, List.getElem?_cons_succ]) <;> rfl) (fun K hK => ?_) (AllReadyT.last (by (simp only [List.getElem?_toArray, List.getElem?_cons_zero, List.getElem?_cons_succ]) <;> rfl) (by kernel_rfl) (fun K hK => ?_) AllReadyT.nil))
    · go_simp
      refine hK.out _ _ hHeld (fun hHeld => ?_)
      (try clear hK K)
      (try simp only [Act.put, List.setIfInBounds_toArray, List.set_cons_zero, List.set_cons_succ])
      refine wpAnyT_ready (rs := [18]) (by kernel_rfl) (by simp) ?_
      refine (AllReadyT.last (by (simp only [List.getElem?_toArray, List.getElem?_cons_zero, List.getElem?_cons_succ]) <;> rfl) (by kernel_rfl) (fun K hK => ?_) AllReadyT.nil)
      go_simp
      refine hK.out _ _ ?_
      (try clear hK K)
      (try simp only [Act.put, List.setIfInBounds_toArray, List.set_cons_zero, List.set_cons_succ])
      refine wpAnyT_take0 (i := 19) (v := ?vvz3) (by (simp only [List.getElem?_toArray, List.getElem?_cons_zero, List.getElem?_cons_succ]) <;> rfl) (by kernel_rfl) (by kernel_rfl) (by kernel_rfl) (by kernel_rfl) ?hqz3 (Or.inl ⟨by rfl, ?hyz3⟩) (fun h => by cases h) ?_
      case hqz3 => exact fun _ _ _ h => h
      case hyz3 => ((intro w hSw; clear hSw; go_simp) <;> (with_reducible rfl))
      (try simp only [Act.put, List.setIfInBounds_toArray, List.set_cons_zero, List.set_cons_succ])
      refine wpAnyT_take0 (i := 20) (v := ?vvz4) (by (simp only [List.getElem?_toArray, List.getElem?_cons_zero, List.getElem?_cons_succ]) <;> rfl) (by kernel_rfl) (by kernel_rfl) (by kernel_rfl) (by kernel_rfl) ?hqz4 (Or.inl ⟨by rfl, ?hyz4⟩) (fun h => by cases h) ?_
      case hqz4 => exact fun _ _ _ h => h
      case hyz4 => ((intro w hSw; clear hSw; go_simp) <;> (with_reducible rfl))
      (try simp only [Act.put, List.setIfInBounds_toArray, List.set_cons_zero, List.set_cons_succ])
      refine wpAnyT_ready (rs := [21]) (by kernel_rfl) (by simp) ?_
      refine (AllReadyT.last (by (simp only [List.getElem?_toArray, List.getElem?_cons_zero, List.getElem?_cons_succ]) <;> rfl) (by kernel_rfl) (fun K hK => ?_) AllReadyT.nil)
      go_simp
      refine hK.out _ _ ?_
      (try clear hK K)
      (try simp only [Act.put, List.setIfInBounds_toArray, List.set_cons_zero, List.set_cons_succ])
      refine wpAnyT_done (by kernel_rfl) ?_ _
      (try clear hHeld)
      go_wp2
      go_ret
      exact ⟨rfl, ⟨_, (kf.out _ (bel_dd _)).1⟩, (kf.out _ (bel_dd _)).2⟩
    · go_simp
      refine hK.out _ _ ?_
      (try clear hK K)
      (try simp only [Act.put, List.setIfInBounds_toArray, List.set_cons_zero, List.set_cons_succ])
      refine wpAnyT_ready (rs := [15]) (by kernel_rfl) (by simp) ?_
      refine (AllReadyT.last (by (simp only [List.getElem?_toArray, List.getElem?_cons_zero, List.getElem?_cons_succ]) <;> rfl) (by kernel_rfl) (fun K hK => ?_) AllReadyT.nil)
      go_simp
      refine hK.out _ _ ?_
      (try clear hK K)
      (try simp only [Act.put, List.setIfInBounds_toArray, List.set_cons_zero, List.set_cons_succ])
      refine wpAnyT_take0 (i := 19) (v := ?vvz5) (by (simp only [List.getElem?_toArray, List.getElem?_cons_zero, List.getElem?_cons_succ]) <;> rfl) (by kernel_rfl) (by kernel_rfl) (by kernel_rfl) (by kernel_rfl) ?hqz5 (Or.inl ⟨by rfl, ?hyz5⟩) (fun h => by cases h) ?_
      case hqz5 => exact fun _ _ _ h => h
      case hyz5 => ((intro w hSw; clear hSw; go_simp) <;> (with_reducible rfl))
      (try simp only [Act.put, List.setIfInBounds_toArray, List.set_cons_zero, List.set_cons_succ])
      refine wpAnyT_take0 (i := 20) (v := ?vvz6) (by (simp only [List.getElem?_toArray, List.getElem?_cons_zero, List.getElem?_cons_succ]) <;> rfl) (by kernel_rfl) (by kernel_rfl) (by kernel_rfl) (by kernel_rfl) ?hqz6 (Or.inl ⟨by rfl, ?hyz6⟩) (fun h => by cases h) ?_
      case hqz6 => exact fun _ _ _ h => h
      case hyz6 => ((intro w hSw; clear hSw; go_simp) <;> (with_reducible rfl))
      (try simp only [Act.put, List.setIfInBounds_toArray, List.set_cons_zero, List.set_cons_succ])
      refine wpAnyT_ready (rs := [21]) (by kernel_rfl) (by simp) ?_
      refine (AllReadyT.last (by (simp only [List.getElem?_toArray, List.getElem?_cons_zero, List.getElem?_cons_succ]) <;> rfl) (by kernel_rfl) (fun K hK => ?_) AllReadyT.nil)
      go_simp
      refine hK.out _ _ ?_
      (try clear hK K)
      (try simp only [Act.put, List.setIfInBounds_toArray, List.set_cons_zero, List.set_cons_succ])
      refine wpAnyT_done (by kernel_rfl) ?_ _
      (try clear hHeld)
      go_wp2
      go_ret
      exact ⟨rfl, ⟨_, (kf.out _ (bel_dd _)).1⟩, (kf.out _ (bel_dd _)).2⟩
  · go_simp
    refine hK.out _ _ ?_
    (try clear hK K)
    (try simp only [Act.put, List.setIfInBounds_toArray, List.set_cons_zero, List.set_cons_succ])
    refine wpAnyT_ready (rs := [14]) (by kernel_rfl) (by simp) ?_
    refine (AllReadyT.last (by (simp only [List.getElem?_toArray, List.getElem?_cons_zero, List.getElem?_cons_succ]) <;> rfl) (by kernel_rfl) (fun K hK => ?_) AllReadyT.nil)
    go_simp
    refine hK.out _ _ ?_
    (try clear hK K)
    (try simp only [Act.put, List.setIfInBounds_toArray, List.set_cons_zero, List.set_cons_succ])
    refine wpAnyT_ready (rs := [15]) (by kernel_rfl) (by simp) ?_
    refine (AllReadyT.last (by (simp only [List.getElem?_toArray, List.getElem?_cons_zero, List.getElem?_cons_succ]) <;> rfl) (by kernel_rfl) (fun K hK => ?_) AllReadyT.nil)
    go_simp
    refine hK.out _ _ ?_
    (try clear hK K)
    (try simp only [Act.put, List.setIfInBounds_toArray, List.set_cons_zero, List.set_cons_succ])
    refine wpAnyT_take0 (i := 19) (v := ?vvz7) (by (simp only [List.getElem?_toArray, List.getElem?_cons_zero, List.getElem?_cons_succ]) <;> rfl) (by kernel_rfl) (by kernel_rfl) (by kernel_rfl) (by kernel_rfl) ?hqz7 (Or.inl ⟨by rfl, ?hyz7⟩) (fun h => by cases h) ?_
    case hqz7 => exact fun _ _ _ h => h
    case hyz7 => ((intro w hSw; clear hSw; go_simp) <;> (with_reducible rfl))
    (try simp only [Act.put, List.setIfInBounds_toArray, List.set_cons_zero, List.set_cons_succ])
    refine wpAnyT_take0 (i := 20) (v := ?vvz8) (by (simp only [List.getElem?_toArray, List.getElem?_cons_zero, List.getElem?_cons_succ]) <;> rfl) (by kernel_rfl) (by kernel_rfl) (by kernel_rfl) (by kernel_rfl) ?hqz8 (Or.inl ⟨by rfl, ?hyz8⟩) (fun h => by cases h) ?_
    case hqz8 => exact fun _ _ _ h => h
    case hyz8 => ((intro w hSw; clear hSw; go_simp) <;> (with_reducible rfl))
    (try simp only [Act.put, List.setIfInBounds_toArray, List.set_cons_zero, List.set_cons_succ])
    refine wpAnyT_ready (rs := [21]) (by kernel_rfl) (by simp) ?_
    refine (AllReadyT.last (by (simp only [List.getElem?_toArray, List.getElem?_cons_zero, List.getElem?_cons_succ]) <;> rfl) (by kernel_rfl) (fun K hK => ?_) AllReadyT.nil)
    go_simp
    refine hK.out _ _ ?_
    (try clear hK K)
    (try simp only [Act.put, List.setIfInBounds_toArray, List.set_cons_zero, List.set_cons_succ])
    refine wpAnyT_done (by kernel_rfl) ?_ _
    (try clear hHeld)
    go_wp2
    go_ret
    exact ⟨rfl, ⟨_, (kf.out _ (bel_dd _)).1⟩, (kf.out _ (bel_dd _)).2⟩
theorem ref_pop_no (h : RfP Z w r R nm fs L AN cN AF cF vL) (x : Int) :
    (x < 0 → Calls Try.prog 17 #[.pointer (some ⟨r, 0, none⟩), .int .i64 x] w fun e w' => e = .returned (.int .i64 1) ∧ w = w') ∧
    ((L.length : Int) < x → Calls Try.prog 17 #[.pointer (some ⟨r, 0, none⟩), .int .i64 x] w fun e w' => e = .returned (.int .i64 5) ∧ w = w') ∧
    (x = 0 → Calls Try.prog 17 #[.pointer (some ⟨r, 0, none⟩), .int .i64 x] w fun e w' => e = .returned (.int .i64 0) ∧ w = w') := by
  have hform : ∃ A c, vL = .slice A L.length c := by
    rcases h.rL.2 with ⟨e, h⟩ | ⟨g, cap, cu, e, _⟩
    · exact ⟨none, 0, by rw [e, h]⟩
    · exact ⟨_, _, e⟩
  obtain ⟨A, c, rfl⟩ := hform
  have a2 : w.cell? ⟨r, 2, none⟩ = some (.slice A L.length c) := h.bk.cell rfl
  clear h
  generalize L.length = n at *
  refine ⟨fun hx => ?_, fun hx => ?_, fun hx => ?_⟩
  · go_enter Try.func17, Try.ntmps17
    go_wp2
    go_ret
    exact ⟨rfl, rfl⟩
  · have d1 : decide (x < 0) = false := decide_eq_false (by omega)
    go_enter Try.func17, Try.ntmps17
    go_wp2
    go_ret
    exact ⟨rfl, rfl⟩
  · subst hx
    have d1 : decide ((n : Int) < 0) = false := decide_eq_false (by omega)
    go_enter Try.func17, Try.ntmps17
    go_wp2
    go_ret
    exact ⟨rfl, rfl⟩

theorem ref_pname_no (h : RfP Z w r R nm fs L AN cN AF cF vL) (hn : nm.length ≤ 1000000) (x : Int) (hx : knownB nm.length x = false) :
    Calls Try.prog 24 #[.pointer (some ⟨r, 0, none⟩), .int .i64 x] w fun e w' => e = .returned (.tuple #[.string ⟨#[]⟩, .bool false]) ∧ w = w' := by
  have his := ref_is h hn x
  rw [hx] at his
  clear h hx
  go_enter Try.func24, Try.ntmps24
  go_wp2_with (go_at_call 39; (with_reducible refine his.mono ?_); rintro e w' ⟨rfl, rfl⟩)
  go_ret2
  exact ⟨rfl, rfl⟩

def bBool : ByteArray := ⟨#[66, 111, 111, 108]⟩
def bReal : ByteArray := ⟨#[82, 101, 97, 108]⟩
set_option maxHeartbeats 1000000 in
theorem ref_pname_yes (h : RfP Z w r R nm fs L AN cN AF cF vL) (hn : nm.length ≤ 1000) (i : Nat) (s : ByteArray) (hi : (bBool :: bReal :: nm)[i]? = some s) :
    Calls Try.prog 24 #[.pointer (some ⟨r, 0, none⟩), .int .i64 (i : Int)] w fun e w' => e = .returned (.tuple #[.string s, .bool true]) ∧ Below w.heap.size w w' := by
  have his := ref_is h (by omega) (i : Int)
  have hlt : i < nm.length + 2 := by
    have := (List.getElem?_eq_some_iff.1 hi).1
    simpa using this
  have hk : knownB nm.length (i : Int) = true := by
    simp only [knownB, Bool.and_eq_true, decide_eq_true_eq]
    omega
  rw [hk] at his
  have a0 : (w.alloc (.cells #[.string ⟨#[66, 111, 111, 108]⟩, .string ⟨#[82, 101, 97, 108]⟩] 9)).cell? ⟨r, 0, none⟩ = some (.slice AN nm.length cN) := cell_al (h.bk.cell rfl) _
  have hX : Bk w.heap.size #[.string ⟨#[66, 111, 111, 108]⟩, .string ⟨#[82, 101, 97, 108]⟩] 9 (w.alloc (.cells #[.string ⟨#[66, 111, 111, 108]⟩, .string ⟨#[82, 101, 97, 108]⟩] 9)) := Bk.new _ _ _
  have hb0 : Below w.heap.size w (w.alloc (.cells #[.string ⟨#[66, 111, 111, 108]⟩, .string ⟨#[82, 101, 97, 108]⟩] 9)) := bel_al _ _
  have hrow : (w.alloc (.cells #[.string ⟨#[66, 111, 111, 108]⟩, .string ⟨#[82, 101, 97, 108]⟩] 9)).ownsRow 0 9 1 (.slice (some ⟨w.heap.size, 0, none⟩) 2 2) 2 [.string bBool, .string bReal] :=
    ⟨by simp, .inr ⟨w.heap.size, 2, _, rfl, Nat.zero_le _, hX, by omega, by unfold maxLen; omega, by simp, rfl⟩⟩
  obtain ⟨v, W', hr, k1, k2, k3⟩ := app_row infS Try.underlying28 rfl (by decide) _ _ 2 _ hrow AN nm.length cN (nm.map Value.string) (R ++ Z) (by simp) (h.next hb0).rN (by intro u hu; simp at hu; obtain ⟨a, _, rfl⟩ := hu; rfl) (by omega) (by decide) h.nN.2.2
  have hform : ∃ g c, v = .slice (some ⟨g, 0, none⟩) (2 + nm.length) c := by
    rcases k1.2 with ⟨e, h⟩ | ⟨g, cap, cu, e, _⟩
    · omega
    · exact ⟨_, _, e⟩
  obtain ⟨g, c, rfl⟩ := hform
  have hget : ([Value.string bBool, Value.string bReal] ++ nm.map Value.string)[i]? = some (.string s) := by
    have : ([Value.string bBool, Value.string bReal] ++ nm.map Value.string) = (bBool :: bReal :: nm).map Value.string := rfl
    rw [this, List.getElem?_map, hi]; rfl
  have c0 := k1.cells (g := g) rfl _ _ hget
  rw [Addr.add_lit, Nat.zero_add] at c0
  have hend : Below w.heap.size w W' := hb0.trans (k2.below hb0.size (by intro b hb; simp [Value.ownBlock] at hb; omega))
  have hi2 : i < 2 + nm.length := by omega
  clear h hX hb0 hrow k1 k2 k3 hget hi hk
  generalize nm.length = n at *
  go_enter Try.func24, Try.ntmps24
  go_wp2_with first
    | (go_at_call 39; (with_reducible refine his.mono ?_); rintro e w' ⟨rfl, rfl⟩)
    | (at_builtin; refine wpList_append_run _ rfl _ _ _ rfl _ _ _ _ rfl rfl hr ?_)
  go_ret2
  exact ⟨rfl, hend⟩
end
end Nt
end Go.Proofs.Ytlcgdiciiibeeaa
