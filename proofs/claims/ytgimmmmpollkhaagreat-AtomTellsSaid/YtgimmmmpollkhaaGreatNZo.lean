
/-
  A drawn region whose last store hits a cell that it loads: loads that stand ahead of the store may be taken first; what they lean on need not hold behind the store.
  A slice of parts that grows: nothing, or a row of the call's own (the reference's 'append(out.Parts, ..)').
  Rows of bindings (an id, and what it is); capacities of a number's rows.
  The reference's multiple of a sum (theodoliteref6.Scale).
-/
import Derived.OrdersHeld
import Derived.Deep.RegionHeld
import Derived.Test.YtgimmmmpollkhaaGreatNYt
import Derived.Deep.AppendSrc
namespace Go.Proofs.YtgimmmmpollkhaaGreat

namespace Nt
set_option linter.unusedSimpArgs false
set_option linter.unusedVariables false
section

variable {P : Program} {ops : Array Oper} {Q : Exit → Act → World → Prop} {md : Region.Mode} {S : World → Prop} {t : Nat}

def wpAnyT (P : Program) (md : Region.Mode) (ops : Array Oper) (Q : Exit → Act → World → Prop) (S : World → Prop) (t : Nat) : Nat → Array Bool → Act → World → Prop
  | 0, listed, a, w => Region.ready md ops listed = [] ∧ Q .normal a w
  | fuel + 1, listed, a, w =>
    (Region.ready md ops listed = [] → Q .normal a w) ∧
    ∀ i ∈ Region.ready md ops listed, wpOp P ops Q i (fun a' w' => ((listed.setIfInBounds i true).getD t true = false → S w') ∧ wpAnyT P md ops Q S t fuel (listed.setIfInBounds i true) a' w') a w
theorem wpAny_of_T : ∀ (fuel : Nat) (listed : Array Bool) (a : Act) (w : World), wpAnyT P md ops Q S t fuel listed a w → wpAny P md ops Q fuel listed a w
  | 0, _, _, _, h => h
  | fuel + 1, _, _, _, h => ⟨h.1, fun i hi => wpOp_mono (fun a' w' h' => wpAny_of_T fuel _ a' w' h'.2) (h.2 i hi)⟩

def ClosedL (md : Region.Mode) (ops : Array Oper) (listed : Array Bool) : Prop := ∀ j oj, ops[j]? = some oj → listed.getD j true = true → ∀ e ∈ oj.after, Region.binds md e = true → listed.getD e.on false = true
def closedB (md : Region.Mode) (ops : Array Oper) (listed : Array Bool) : Bool := (List.range ops.size).all fun j => !listed.getD j true || ((ops[j]?).map (·.after.all fun e => !Region.binds md e || listed.getD e.on false)).getD false
theorem closed_of {listed : Array Bool} (h : closedB md ops listed = true) : ClosedL md ops listed := by
  intro j oj hj hl e he hb
  unfold closedB at h
  rw [List.all_eq_true] at h
  have h1 := h j (List.mem_range.2 (Array.getElem?_eq_some_iff.1 hj).1)
  simp only [hl, Bool.not_true, Bool.false_or, hj, Option.map_some, Option.getD_some, Array.all_eq_true'] at h1
  have h2 := h1 e he
  simpa [hb] using h2
theorem ClosedL.step {listed : Array Bool} {i : Nat} (h : ClosedL md ops listed) (hi : i ∈ Region.ready md ops listed) : ClosedL md ops (listed.setIfInBounds i true) := by
  intro j oj hj hl e he hb
  by_cases hji : j = i
  · subst hji
    obtain ⟨_, o, ho, hall⟩ := mem_ready.1 hi
    rw [hj] at ho
    cases ho
    exact getD_set_true (hall e he hb)
  · rw [getD_set_ne true (Ne.symm hji)] at hl
    exact getD_set_true (h j oj hj hl e he hb)
def depB (md : Region.Mode) (ops : Array Oper) : Nat → Nat → Nat → Bool
  | 0, _, _ => false
  | f + 1, k, i => ((ops[k]?).map (·.after.any fun e => Region.binds md e && (e.on == i || depB md ops f e.on i))).getD false
theorem dep_un {listed : Array Bool} (hc : ClosedL md ops listed) {i : Nat} (hi : listed.getD i true = false) : ∀ (f k : Nat), depB md ops f k i = true → listed.getD k true = false
  | 0, k, h => by cases h
  | f + 1, k, h => by
    unfold depB at h
    cases ho : ops[k]? with
    | none => rw [ho] at h; cases h
    | some o =>
      rw [ho] at h
      simp only [Option.map_some, Option.getD_some, Array.any_eq_true'] at h
      obtain ⟨e, he, hx⟩ := h
      simp only [Bool.and_eq_true, Bool.or_eq_true, beq_iff_eq] at hx
      obtain ⟨hb, hx⟩ := hx
      have hun : listed.getD e.on true = false := by
        rcases hx with hx | hx
        · rw [hx]; exact hi
        · exact dep_un hc hi f e.on hx
      rcases hk : listed.getD k true with _ | _
      · rfl
      · have := hc k o ho hk e he hb
        rcases Nat.lt_or_ge e.on listed.size with h' | h'
        · simp [h'] at this hun; rw [hun] at this; cases this
        · simp [Array.getElem?_eq_none h'] at hun

theorem wpAnyT_first {i : Nat} {oi : Oper} {v : Value} {f : Nat} (hi : ops[i]? = some oi) (hsel : ∀ (j : Nat) (o : Oper) cs b, ops[j]? = some o → o.op ≠ .select cs b)
    (hQ : ∀ c a w, Q (.panic c) (a.put oi.dst v) w → Q (.panic c) a w) (hd : depB md ops f t i = true) (hit : i ≠ t) :
    ∀ (fuel : Nat) (listed : Array Bool) (a : Act) (w : World), ClosedL md ops listed →
      (∀ j oj, ops[j]? = some oj → j ≠ i → listed.getD j true = false → (∀ e ∈ oj.after, Region.binds md e = true → e.on ≠ i) → oi.apart ops oj = true) →
      i ∈ Region.ready md ops listed → YieldsIf P ops S oi v a → S w →
      wpAnyT P md ops Q S t fuel (listed.setIfInBounds i true) (a.put oi.dst v) w → wpAnyT P md ops Q S t (fuel + 1) listed a w := by
  intro fuel
  induction fuel with
  | zero =>
    intro listed a w hc _ hr hy hS H
    refine ⟨fun h => (by rw [h] at hr; cases hr), fun j hj => ?_⟩
    by_cases hji : j = i
    · subst hji; exact hy.wpOp hi hS ⟨fun _ => hS, H⟩
    · have := ready_mono hj hji
      rw [H.1] at this
      cases this
  | succ fuel ih =>
    intro listed a w hc hfree hr hy hS H
    refine ⟨fun h => (by rw [h] at hr; cases hr), fun j hj => ?_⟩
    by_cases hji : j = i
    · subst hji; exact hy.wpOp hi hS ⟨fun _ => hS, H⟩
    · have h1 := H.2 j (ready_mono hj hji)
      obtain ⟨hjun, oj, hoj, hall⟩ := mem_ready.1 hj
      have hnot : ∀ e ∈ oj.after, Region.binds md e = true → e.on ≠ i := fun e he hb heq => by
        have h1 := hall e he hb
        have h0 := (mem_ready.1 hr).1
        rw [heq] at h1
        rcases Nat.lt_or_ge i listed.size with h' | h'
        · simp [h'] at h0 h1; rw [h0] at h1; cases h1
        · simp [Array.getElem?_eq_none h'] at h1
      have h2 := wpOp_putIf hoj (hfree j oj hoj hji hjun hnot) (fun cs b => hsel i oi cs b hi) (fun cs b => hsel j oj cs b hoj) hQ hy h1
      have hfree' : ∀ k ok, ops[k]? = some ok → k ≠ i → (listed.setIfInBounds j true).getD k true = false →
          (∀ e ∈ ok.after, Region.binds md e = true → e.on ≠ i) → oi.apart ops ok = true := fun k ok hk hki hun hno => by
        refine hfree k ok hk hki ?_ hno
        by_cases hjk : j = k
        · subst hjk; exact hjun
        · rw [getD_set_ne true hjk] at hun; exact hun
      have hc' := hc.step hj
      have hir := ready_mono hr (Ne.symm hji)
      have htu : (listed.setIfInBounds j true).getD t true = false := dep_un hc' (mem_ready.1 hir).1 f t hd
      refine wpOp_mono (fun a' w' h3 => ?_) h2
      have hSw : S w' := h3.2.1 (by rw [Array.setIfInBounds_comm _ _ (Ne.symm hji), getD_set_ne true hit]; exact htu)
      refine ⟨fun _ => hSw, ih (listed.setIfInBounds j true) a' w' hc' hfree' hir h3.1 hSw ?_⟩
      rw [Array.setIfInBounds_comm _ _ hji]
      exact h3.2.2

theorem wpAnyT_take (f : Nat) {i : Nat} {oi : Oper} {v : Value} {fuel : Nat} {listed : Array Bool} {a : Act} {w : World} (hi : ops[i]? = some oi)
    (hs : Region.noSelect ops = true) (hf : Region.free md ops listed i = true) (hr : (Region.ready md ops listed).contains i = true) (hcl : closedB md ops listed = true) (hd : depB md ops f t i = true) (hit : (i == t) = false)
    (hQ : ∀ c a w, Q (.panic c) (a.put oi.dst v) w → Q (.panic c) a w) (hy : YieldsIf P ops S oi v a) (hS : S w)
    (h : wpAnyT P md ops Q S t fuel (listed.setIfInBounds i true) (a.put oi.dst v) w) : wpAnyT P md ops Q S t (fuel + 1) listed a w :=
  wpAnyT_first hi (Region.noSelect_spec hs) hQ hd (beq_eq_false_iff_ne.1 hit) fuel listed a w (closed_of hcl) (Region.free_spec hi hf) (by simpa using hr) hy hS h
def AllReadyT (P : Program) (md : Region.Mode) (ops : Array Oper) (Q : Exit → Act → World → Prop) (S : World → Prop) (t : Nat) (fuel : Nat) (listed : Array Bool) (a : Act) (w : World) (rs : List Nat) : Prop :=
  ∀ i ∈ rs, wpOp P ops Q i (fun a' w' => ((listed.setIfInBounds i true).getD t true = false → S w') ∧ wpAnyT P md ops Q S t fuel (listed.setIfInBounds i true) a' w') a w
theorem AllReadyT.nil {fuel : Nat} {listed : Array Bool} {a : Act} {w : World} : AllReadyT P md ops Q S t fuel listed a w [] := fun _ h => by cases h
theorem AllReadyT.cons {fuel : Nat} {listed : Array Bool} {a : Act} {w : World} {i : Nat} {o : Oper} {rs : List Nat} (ho : ops[i]? = some o)
    (h : ∀ K' : Act → World → Prop, Shut (∀ a w, S w → (S w → wpAnyT P md ops Q S t fuel (listed.setIfInBounds i true) a w) → K' a w) → if Region.wanted o (yielded ops a.tmps) = true then Oper.wp P o a w K' Q else K' (a.put o.dst undef) w)
    (hs : AllReadyT P md ops Q S t fuel listed a w rs) : AllReadyT P md ops Q S t fuel listed a w (i :: rs) := fun j hj => by
  rcases List.mem_cons.1 hj with rfl | hj
  · exact wpOp_step ho (fun K' hK => h K' (fun a w hS hW => hK a w ⟨fun _ => hS, hW hS⟩))
  · exact hs j hj
theorem AllReadyT.last {fuel : Nat} {listed : Array Bool} {a : Act} {w : World} {i : Nat} {o : Oper} {rs : List Nat} (ho : ops[i]? = some o) (hl : (listed.setIfInBounds i true).getD t true = true)
    (h : ∀ K' : Act → World → Prop, Shut (∀ a w, wpAnyT P md ops Q S t fuel (listed.setIfInBounds i true) a w → K' a w) → if Region.wanted o (yielded ops a.tmps) = true then Oper.wp P o a w K' Q else K' (a.put o.dst undef) w)
    (hs : AllReadyT P md ops Q S t fuel listed a w rs) : AllReadyT P md ops Q S t fuel listed a w (i :: rs) := fun j hj => by
  rcases List.mem_cons.1 hj with rfl | hj
  · exact wpOp_step ho (fun K' hK => h K' (fun a w hW => hK a w ⟨fun h0 => (by rw [hl] at h0; cases h0), hW⟩))
  · exact hs j hj
theorem wpAnyT_ready {rs : List Nat} {fuel : Nat} {listed : Array Bool} {a : Act} {w : World} (hr : Region.ready md ops listed = rs) (hne : rs ≠ [])
    (h : AllReadyT P md ops Q S t fuel listed a w rs) : wpAnyT P md ops Q S t (fuel + 1) listed a w := ⟨fun h0 => absurd (hr ▸ h0) hne, hr ▸ h⟩
theorem wpAnyT_done {listed : Array Bool} {a : Act} {w : World} (hr : Region.ready md ops listed = []) (h : Q .normal a w) :
    ∀ fuel, wpAnyT P md ops Q S t fuel listed a w
  | 0 => ⟨hr, h⟩
  | _ + 1 => ⟨fun _ => h, by rw [hr]; simp⟩
theorem wp_region_T (S : World → Prop) (t : Nat) {id : Nat} {a : Act} {w : World} (hm : P.follows .mixedOrders = true) (hS : S w.drew)
    (h : S w.drew → wpAnyT P .any ops Q S t ops.size (Array.replicate ops.size false) a w.drew) : (Code.region id ops true).wp P Q a w :=
  wp_region_any hm (wpAny_of_T _ _ _ _ (h hS))

theorem wp_append_ex {o : Oper} {a : Act} {w : World} {K : Act → World → Prop} (s x : Operand) (ty : TypeId)
    (ho : o.op = .call { callee := .builtin .append, args := #[s, x], argTypes := #[ty, ty] }) (u v : Value) (hs : a.eval s = u) (hx : a.eval x = v) (G : Value → World → Prop)
    (hrun : ∃ r w', (∀ t', (Builtin.append_ #[ty, ty] t' #[u, v]).run P w = .ok r w') ∧ G r w') (hK : ∀ r w', G r w' → K (a.put o.dst r) w') : Oper.wp P o a w K Q := by
  obtain ⟨r, w', hr, hG⟩ := hrun
  unfold Oper.wp execOp
  simp only [ho, resolve, invoke, builtin, Sem.run_bind, Sem.run_pure, Result.andThen_ok, List.map_toArray, List.map_cons, List.map_nil, hs, hx, hr]
  exact hK _ _ hG
end

end Nt

end Go.Proofs.YtgimmmmpollkhaaGreat

namespace Go.Proofs.YtgimmmmpollkhaaGreat

open Go.ChangeShapes Go.RowKit

namespace Nt
set_option maxRecDepth 100000
set_option linter.unusedSimpArgs false
set_option linter.unusedVariables false

def Gn (B : Nat) (w : World) (v : Value) (l : List Pt) : Prop := (v = .slice none 0 0 ∧ l = []) ∨ ∃ g m, v = .slice (some ⟨g, 0, none⟩) l.length m ∧ Gw B w g m l
section

variable {B : Nat} {w w' : World} {v : Value} {l : List Pt}
theorem Gn.nil (B : Nat) (w : World) : Gn B w (.slice none 0 0) [] := .inl ⟨rfl, rfl⟩
theorem Gn.off {T : List Nat} (h : Gn B w v l) (hO : Off T w w') (hn : ∀ b, v.ownBlock = some b → b ∉ T) : Gn B w' v l := by
  rcases h with ⟨rfl, rfl⟩ | ⟨g, m, rfl, hg⟩
  · exact .inl ⟨rfl, rfl⟩
  · exact .inr ⟨g, m, rfl, hg.off hO (hn g rfl)⟩
theorem Gn.next (h : Gn B w v l) (hb : Below w.heap.size w w') : Gn B w' v l := h.off (Off.of_below hb []) (by simp)
theorem Gn.base (h : Gn B w v l) : ∀ b, v.ownBlock = some b → B ≤ b ∧ b < w.heap.size := by
  rcases h with ⟨rfl, rfl⟩ | ⟨g, m, rfl, hg⟩
  · intro b hb; cases hb
  · intro b hb
    cases hb
    exact ⟨hg.base, hg.lt⟩
theorem Gn.mono {B' : Nat} (h : Gn B w v l) (hB : B' ≤ B) : Gn B' w v l := by
  rcases h with ⟨rfl, rfl⟩ | ⟨g, m, rfl, hg⟩
  · exact .inl ⟨rfl, rfl⟩
  · exact .inr ⟨g, m, rfl, hg.mono hB⟩
theorem Gn.pl (h : Gn B w v l) (hA : ∀ p ∈ l, p.At w) : ∃ A k, v = .slice A l.length k ∧ Pl w A l ∧ l.length ≤ k ∧ k ≤ maxLen := by
  rcases h with ⟨rfl, rfl⟩ | ⟨g, m, rfl, hg⟩
  · exact ⟨none, 0, rfl, .inl rfl, Nat.le_refl _, Nat.zero_le _⟩
  · exact ⟨some ⟨g, 0, none⟩, m, rfl, hg.pl hA, hg.room, hg.big⟩
theorem Gn.at_ {p : Pt} (h : Gn B w v l) (hp : p.At w) (hO : Off v.ownBlock.toList w w') : p.At w' := by
  rcases h with ⟨rfl, rfl⟩ | ⟨g, m, rfl, hg⟩
  · have hO' : Off [] w w' := hO
    exact hp.next (hO'.below (Nat.le_refl _) (by simp))
  · exact hg.at_ hp hO
theorem Gn.push (h : Gn B w v l) (p : Pt) (hl : l.length ≤ 100000) (hB : B ≤ w.heap.size) {x : Nat} (hX : Bk x #[.bool p.s, .slice p.A p.xs.length p.a, .slice p.B p.ys.length p.b, .int .i64 p.t] 83 w) :
    ∃ v' W', (∀ ty, (Builtin.append_ #[22, 22] ty #[v, .slice (some ⟨x, 0, none⟩) 1 1]).run Tryz.prog w = .ok v' W') ∧ Gn B W' v' (l ++ [p]) ∧ Off v.ownBlock.toList w W' ∧ ∀ b, v'.ownBlock = some b → v.ownBlock = some b ∨ b = w.heap.size := by
  obtain ⟨i, hinf, hz, h1, h8⟩ := infP
  have hpl : p.cs.length = 4 := rfl
  have hno : ∀ v ∈ p.cs, noU v = true := by
    intro v hv
    simp [Pt.cs] at hv
    rcases hv with rfl | rfl | rfl | rfl <;> rfl
  have hone : ∀ u ∈ p.cs, u.oneCell' = true := by
    intro u hu
    simp [Pt.cs] at hu
    rcases hu with rfl | rfl | rfl | rfl <;> rfl
  have hcells : ∀ j u, p.cs[j]? = some u → w.cell? ((⟨x, 0, none⟩ : Addr).add j) = some u := by
    intro j u hu
    rw [Addr.add_lit, Nat.zero_add]
    refine hX.cell ?_
    rw [← Array.getElem?_toList]
    exact hu
  have hsrc : Src Tryz.prog i.size 22 (.slice (some ⟨x, 0, none⟩) 1 1) 1 p.cs w := Src.ofSlice w Tryz.underlying22 ⟨x, 0, none⟩ 1 1 p.cs (by rw [h1]; rfl) hcells hone
  -- what the growing arm leaves
  have grown : ∀ (olds : List Value) (cap : Nat), olds = pcs l → l.length + 1 ≤ cap → cap ≤ maxLen →
      Gw B (w.drew.alloc (.cells ((olds ++ p.cs).toArray ++ Builtin.zeroCells (Value.agg #[.bool false, .slice none 0 0, .slice none 0 0, .int .i64 0]).cells (cap - (l.length + 1))) 83)) w.heap.size cap (l ++ [p]) := by
    intro olds cap ho hc hm
    subst ho
    have e4 : (pcs l ++ p.cs).length = (l.length + 1) * 4 := by rw [List.length_append, pcs_len, hpl]; omega
    refine ⟨⟨_, Bk.new _ _ w.drew, ?_, ?_, ?_⟩, hB, by simpa using hc, hm⟩
    · rw [Array.size_append, size_zeroCells, List.size_toArray, e4]
      show (l.length + 1) * 4 + (cap - (l.length + 1)) * 4 = cap * 4
      omega
    · rw [pcs_push, Array.toList_append]
      have e5 : (l ++ [p]).length * 4 = (pcs l ++ p.cs).length := by rw [e4, List.length_append]; rfl
      rw [e5]
      exact List.take_left
    · intro v hv
      rw [Array.toList_append] at hv
      rcases List.mem_append.1 hv with hv | hv
      · rcases List.mem_append.1 hv with hv | hv
        · unfold pcs at hv
          obtain ⟨p', _, hv'⟩ := List.mem_flatMap.1 hv
          simp [Pt.cs] at hv'
          rcases hv' with rfl | rfl | rfl | rfl <;> rfl
        · exact hno v hv
      · exact zero_noU _ v hv
  have hdr : Below w.heap.size w (w.drew.alloc (.cells #[] 83)) := bl_al (((Off.refl [] w).drew).below (Nat.le_refl _) (by simp)) _
  have hOa : ∀ (T : List Nat) (o : Obj), Off T w (w.drew.alloc o) := fun T o => ((Off.refl T w).drew).alloc o
  rcases h with ⟨rfl, rfl⟩ | ⟨g, m, rfl, hg⟩
  · have hr := fun ty => run_append_grow_src (P := Tryz.prog) w 22 22 ty 83 i _ Tryz.underlying22 hinf hz none 0 0 [] (by rw [h1]; exact run_firstCells_none w.drew 4 0 0 0) (.slice (some ⟨x, 0, none⟩) 1 1) 1 p.cs hsrc (by decide) (by decide) (by rw [h8]; exact growslice_fits (by decide) (by decide))
    have hc := grownCap_ge w (0 + 1) 0 83
    have hm := grownCap_le_maxLen w (0 + 1) 0 83 (by unfold maxLen; omega)
    refine ⟨_, _, hr, .inr ⟨w.heap.size, grownCap w (0 + 1) 0 83, rfl, grown [] _ rfl (by simpa using hc) hm⟩, hOa _ _, fun b hb => ?_⟩
    cases hb
    exact .inr rfl
  · by_cases hroom : l.length < m
    · obtain ⟨⟨cur, hcc, hsz, htk, hnn⟩, hBg, hrm, hbig⟩ := hg
      have hr := fun ty => run_append_room (P := Tryz.prog) w 22 ty 83 i Tryz.underlying22 hinf g l.length m cur hcc ⟨x, 0, none⟩ 1 1 p.cs (by rw [h1]; rfl) hcells hone (by omega) (by rw [h1, hsz]; show _ + 4 ≤ _; omega)
      rw [h1] at hr
      refine ⟨_, _, hr, .inr ⟨g, m, by simp, ⟨⟨_, setRow_heap w g cur _ _ _ hcc, ?_, ?_, ?_⟩, hBg, by simp; omega, hbig⟩⟩, ⟨rfl, rfl, rfl, by simp, fun k _ hk => setRow_other w g k _ (by simpa [Value.ownBlock] using hk)⟩, fun b hb => .inl hb⟩
      · simp only [List.size_toArray, List.length_append, List.length_take, List.length_drop, Array.length_toList]
        omega
      · rw [pcs_push, htk]
        have e : (l ++ [p]).length * 4 = (pcs l ++ p.cs).length := by rw [List.length_append, List.length_append, pcs_len, hpl]; simp; omega
        rw [e]
        exact List.take_left
      · intro v hv
        simp only [List.mem_append] at hv
        rcases hv with (hv | hv) | hv
        · exact hnn v (List.mem_of_mem_take hv)
        · exact hno v hv
        · exact hnn v (List.mem_of_mem_drop hv)
    · have hml : m = l.length := by have := hg.room; omega
      subst hml
      have hold : (Builtin.firstCells i.size l.length (.slice (some ⟨g, 0, none⟩) l.length l.length)).run Tryz.prog w.drew = .ok (pcs l).toArray w.drew := by
        refine run_firstCells_some w.drew i.size l.length ⟨g, 0, none⟩ l.length l.length (pcs l) (by rw [h1, pcs_len]) ?_
        intro j u hu
        obtain ⟨⟨cur, hcc, hsz, htk, hnn⟩, _⟩ := hg
        have hb : Bk g cur 83 w := hcc
        rw [Addr.add_lit, Nat.zero_add]
        have h2 : w.cell? ⟨g, j, none⟩ = some u := by
          refine hb.cell ?_
          have hj : j < l.length * 4 := by
            rw [← pcs_len]
            exact (List.getElem?_eq_some_iff.1 hu).1
          rw [← htk, List.getElem?_take_of_lt hj, Array.getElem?_toList] at hu
          exact hu
        simpa using h2
      have hr := fun ty => run_append_grow_src (P := Tryz.prog) w 22 22 ty 83 i _ Tryz.underlying22 hinf hz (some ⟨g, 0, none⟩) l.length l.length (pcs l) hold (.slice (some ⟨x, 0, none⟩) 1 1) 1 p.cs hsrc (by omega) (by omega) (by rw [h8]; exact growslice_fits (by omega) (by omega))
      have hc := grownCap_ge w (l.length + 1) l.length 83
      have hm := grownCap_le_maxLen w (l.length + 1) l.length 83 (by unfold maxLen; omega)
      refine ⟨_, _, hr, .inr ⟨w.heap.size, grownCap w (l.length + 1) l.length 83, by simp, grown (pcs l) _ rfl hc hm⟩, hOa _ _, fun b hb => ?_⟩
      cases hb
      exact .inr rfl
end

end Nt

end Go.Proofs.YtgimmmmpollkhaaGreat

namespace Go.Proofs.YtgimmmmpollkhaaGreat

open Go.ChangeShapes Go.RowKit

namespace Nt
set_option maxRecDepth 100000
set_option linter.unusedSimpArgs false
set_option linter.unusedVariables false

def Pt.Cap (p : Pt) : Prop := p.xs.length ≤ p.a ∧ p.ys.length ≤ p.b
def Pt.bcs (p : Pt) : List Value := [.int .i64 p.t, .bool p.s, .slice p.A p.xs.length p.a, .slice p.B p.ys.length p.b]
def Pt.BCells (p : Pt) (g o : Nat) (W : World) : Prop := W.cell? ⟨g, o, none⟩ = some (.int .i64 p.t) ∧ W.cell? ⟨g, o + 1, none⟩ = some (.bool p.s) ∧ W.cell? ⟨g, o + 2, none⟩ = some (.slice p.A p.xs.length p.a) ∧ W.cell? ⟨g, o + 3, none⟩ = some (.slice p.B p.ys.length p.b)
def Bl (W : World) (A : Option Addr) (l : List Pt) : Prop := l = [] ∨ ∃ g o, A = some ⟨g, o, none⟩ ∧ ∀ i (h : i < l.length), l[i].BCells g (o + i * 4) W ∧ l[i].At W
section

variable {w w' W : World} {p : Pt} {A : Option Addr} {l : List Pt}
theorem Pt.BCells.next {g o : Nat} (h : p.BCells g o w) (hb : Below w.heap.size w w') : p.BCells g o w' := ⟨cell_next hb h.1, cell_next hb h.2.1, cell_next hb h.2.2.1, cell_next hb h.2.2.2⟩
theorem Bl.next (h : Bl w A l) (hb : Below w.heap.size w w') : Bl w' A l := by
  rcases h with h | ⟨g, o, e, h⟩
  · exact .inl h
  · exact .inr ⟨g, o, e, fun i hi => ⟨(h i hi).1.next hb, (h i hi).2.next hb⟩⟩
theorem Bl.get (h : Bl w A l) {i : Nat} (hi : i < l.length) : ∃ g o, A = some ⟨g, o, none⟩ ∧ l[i].BCells g (o + i * 4) w ∧ l[i].At w := by
  rcases h with h | ⟨g, o, e, h⟩
  · subst h
    exact absurd hi (Nat.not_lt_zero _)
  · exact ⟨g, o, e, h i hi⟩
end

end Nt

end Go.Proofs.YtgimmmmpollkhaaGreat

namespace Go.Proofs.YtgimmmmpollkhaaGreat

open Go.ChangeShapes Go.RowKit

namespace Nt
set_option maxRecDepth 100000
set_option linter.unusedSimpArgs false
set_option linter.unusedVariables false

theorem rmul_p {p k : Pt} (hp : p.Ok) (hk : k.Ok) (w : World) (aP : p.At w) (aK : k.At w) (f : fitB (p.q * k.q) = true) : Calls Tryz.prog 59 #[rv p, rv k] w (NewQ (p.q * k.q) p.t w) := by
  rw [fitB_t] at f
  rw [hp.rv, hk.rv]
  exact (rmul_q p.q k.q _ rfl _ _ _ _ _ _ _ _ w (hp.sl aP).1 (hp.sl aP).2 (hk.sl aK).1 (hk.sl aK).2 hp.f hk.f f).mono fun e w' h => h.newQ f _
theorem rvalid_p {p : Pt} (hp : p.Ok) (w : World) (aP : p.At w) : Calls Tryz.prog 30 #[rv p] w fun e w' => e = .returned (.bool true) ∧ Below w.heap.size w w' := by
  rw [hp.rv]
  exact rvalid_q p.q _ _ _ _ w (hp.sl aP).1 (hp.sl aP).2 hp.f
theorem rzero_p (w : World) : Calls Tryz.prog 58 #[] w (NewR 0 w) := by
  have hR := hide (fun W => rof_p 0 1 0 W (by decide) (by decide) (by decide) (by decide) (by decide) (by first | rfl | decide +kernel) fit0)
  have hB : Bk w.heap.size zR 25 (w.alloc (.cells zR 25)) := Bk.new _ _ _
  have hb0 := hide (bl_al (.refl _ _) (.cells zR 25) : Below w.heap.size w (w.alloc (.cells zR 25)))
  replace hB := hide hB
  unfold zR at hB hb0
  go_enter Tryz.func58, Tryz.ntmps58
  go_wp2_with (go_at_call 31; (with_reducible refine (hR.out _).mono ?_); rintro e wa ⟨r, rfl, hq, hk, ha, hb⟩; have hR2 := hide (hB.out.next hb); have bw := hide (bl_trans hb0.out hb); have r0 := hR2.out.cell (j := 0) rfl; have r1 := hR2.out.cell (j := 1) rfl; have r2 := hR2.out.cell (j := 2) rfl; have s0 := hR2.out.free 0; have s1 := hR2.out.free 1; have s2 := hR2.out.free 2; clear hb)
  exact bodyPost_ret (v := .agg #[.bool r.s, .slice r.A r.xs.length r.a, .slice r.B r.ys.length r.b]) (by simp [results, Tryz.results58, go_sem, r0, r1, r2]) rfl (newR_done bw.out hR2.out (Nat.le_refl _) hq hk ha)

structure Rsc (w : World) (c kk : Pt) (A : Option Addr) (n kc go : Nat) (v : Value) (l : List Pt) (W : World) : Prop where
  b : Below w.heap.size w W
  x : C4 w.heap.size (.slice A n kc) (.bool c.s) (.slice c.A c.xs.length c.a) (.slice c.B c.ys.length c.b) W
  k : C3 (w.heap.size + 1) (.bool kk.s) (.slice kk.A kk.xs.length kk.a) (.slice kk.B kk.ys.length kk.b) W
  r : Bk (w.heap.size + 1 + 1) zP 27 W
  o : Bk go #[v, .bool false, .slice none 0 0, .slice none 0 0] 27 W
  gn : Gn (w.heap.size + 3) W v l
  ok : ∀ p ∈ l, p.Ok ∧ p.At W
  ne : w.heap.size + 3 ≤ go ∧ v.ownBlock ≠ some go
section

variable {w W W' : World} {c kk : Pt} {A : Option Addr} {n kc go : Nat} {v : Value} {l : List Pt}
theorem Rsc.next (h : Rsc w c kk A n kc go v l W) (hb : Below W.heap.size W W') : Rsc w c kk A n kc go v l W' :=
  ⟨bl_trans h.b hb, h.x.next hb, h.k.next hb, h.r.next hb, h.o.next hb, h.gn.next hb, fun p hp => ⟨(h.ok p hp).1, (h.ok p hp).2.next hb⟩, h.ne⟩
theorem Rsc.al (h : Rsc w c kk A n kc go v l W) (o : Obj) : Rsc w c kk A n kc go v l (W.alloc o) := h.next (bl_al (.refl _ _) o)
theorem Rsc.start (w : World) (c kk : Pt) (A : Option Addr) (n kc : Nat) (hn : n ≤ 1000000) {W : World} (hb : Below (W3 w c kk A n kc).heap.size (W3 w c kk A n kc) W) : Rsc w c kk A n kc W.heap.size (.slice none 0 0) [] (W.alloc (.cells zP 27)) := by
  obtain ⟨hR, hbw⟩ := Sx.boxes w c kk A n kc hb
  obtain ⟨_, hx, hk, _, _⟩ := Sx.start w c kk A n kc hn hb
  have hs : w.heap.size + 3 ≤ W.heap.size := by
    have := hb.size
    unfold W3 at this
    simpa using this
  exact ⟨bl_al hbw _, hx.next (bl_al (.refl _ _) _), hk.next (bl_al (.refl _ _) _), hR.al _, Bk.new _ _ _, Gn.nil _ _, fun p hp => by simp at hp, hs, by simp [Value.ownBlock]⟩
theorem Rsc.push (h : Rsc w c kk A n kc go v l W) (p : Pt) (hp : p.Ok) (aP : p.At W) (hl : l.length ≤ 100000) {x : Nat} (hX : Bk x #[.bool p.s, .slice p.A p.xs.length p.a, .slice p.B p.ys.length p.b, .int .i64 p.t] 83 W) :
    ∃ v' W', (∀ ty, (Builtin.append_ #[22, 22] ty #[v, .slice (some ⟨x, 0, none⟩) 1 1]).run Tryz.prog W = .ok v' W') ∧ (∃ g' m', v' = .slice (some ⟨g', 0, none⟩) (l.length + 1) m') ∧ Off v.ownBlock.toList W W' ∧ Bk go #[v, .bool false, .slice none 0 0, .slice none 0 0] 27 W' ∧ Rsc w c kk A n kc go v' (l ++ [p]) (W'.setCell ⟨go, 0, none⟩ v') := by
  have hbs := h.b.size
  have hgs : w.heap.size + 3 ≤ W.heap.size := by have := h.o.lt; have := h.ne.1; omega
  obtain ⟨v', W', hr, hg, hO, hw⟩ := h.gn.push p hl hgs hX
  have hT : ∀ b ∈ v.ownBlock.toList, w.heap.size + 3 ≤ b ∧ b ≠ go := fun b hb => by
    rw [Option.mem_toList] at hb
    exact ⟨(h.gn.base b hb).1, fun e => h.ne.2 (by rw [← e]; exact hb)⟩
  have ho := h.o.off hO (fun hm => (hT _ hm).2 rfl)
  have hO2 : Off [go] W' (W'.setCell ⟨go, 0, none⟩ v') := (Off.refl _ _).setCell _ _ (.inl (by simp))
  have hgo : ∀ b, v'.ownBlock = some b → b ∉ [go] := fun b hb hm => by
    simp at hm
    subst hm
    rcases hw b hb with e | e
    · exact h.ne.2 e
    · have := h.o.lt; omega
  have hno : ∀ u ∈ (#[v, .bool false, .slice none 0 0, .slice none 0 0] : Array Value).toList, noU u = true := by
    intro u hu
    simp at hu
    rcases hu with rfl | rfl | rfl
    · rcases h.gn with ⟨rfl, _⟩ | ⟨g, m, rfl, _⟩ <;> rfl
    · rfl
    · rfl
  have hB : Below w.heap.size W W' := hO.below hbs (fun b hb => by have := (hT b hb).1; omega)
  have hform : ∃ g' m', v' = .slice (some ⟨g', 0, none⟩) (l.length + 1) m' := by
    rcases hg with ⟨_, e⟩ | ⟨g', m', e, _⟩
    · simp at e
    · exact ⟨g', m', by rw [e, List.length_append]; rfl⟩
  refine ⟨v', W', hr, hform, hO, ho, ⟨?_, ?_, ?_, ?_, ?_, hg.off hO2 hgo, ?_, h.ne.1, fun e => hgo go e (by simp)⟩⟩
  · exact (h.b.trans hB).trans (hO2.below (Nat.le_trans hbs hO.size) (fun b hb => by simp at hb; have := h.ne.1; omega))
  · exact (h.x.off hO (fun hm => by have := (hT _ hm).1; omega)).off hO2 (by simp; have := h.ne.1; omega)
  · exact (h.k.off hO (fun hm => by have := (hT _ hm).1; omega)).off hO2 (by simp; have := h.ne.1; omega)
  · exact (h.r.off hO (fun hm => by have := (hT _ hm).1; omega)).off hO2 (by simp; have := h.ne.1; omega)
  · exact ho.set _ rfl
  · intro p' hp'
    have hat : p'.Ok ∧ p'.At W := by
      rcases List.mem_append.1 hp' with hm | hm
      · exact h.ok p' hm
      · simp at hm
        subst hm
        exact ⟨hp, aP⟩
    have h1 := h.gn.at_ hat.2 hO
    exact ⟨hat.1, ho.sl hno h1.1 hO2, ho.sl hno h1.2 hO2⟩
theorem Rsc.done {r : Pt} (h : Rsc w c kk A n kc go v l W) (hr : r.Ok) (aR : r.At W) :
    ∃ A' k, v = .slice A' l.length k ∧ PR w (l.map Pt.qt) r.q (.returned (.tuple #[.agg #[.slice A' l.length k, .bool r.s, .slice r.A r.xs.length r.a, .slice r.B r.ys.length r.b], .int .i64 0]))
      ((((((((W.setCell ⟨go, 1, none⟩ (.bool r.s)).setCell ⟨go, 2, none⟩ (.slice r.A r.xs.length r.a)).setCell ⟨go, 3, none⟩ (.slice r.B r.ys.length r.b)).setCell ⟨w.heap.size + 1 + 1, 0, none⟩ (.slice A' l.length k)).setCell ⟨w.heap.size + 1 + 1, 1, none⟩ (.bool r.s)).setCell ⟨w.heap.size + 1 + 1, 2, none⟩ (.slice r.A r.xs.length r.a)).setCell ⟨w.heap.size + 1 + 1, 3, none⟩ (.slice r.B r.ys.length r.b))) ∧
      Bk go #[.slice A' l.length k, .bool r.s, .slice r.A r.xs.length r.a, .slice r.B r.ys.length r.b] 27 (((W.setCell ⟨go, 1, none⟩ (.bool r.s)).setCell ⟨go, 2, none⟩ (.slice r.A r.xs.length r.a)).setCell ⟨go, 3, none⟩ (.slice r.B r.ys.length r.b)) ∧
      Bk (w.heap.size + 1 + 1) zP 27 (((W.setCell ⟨go, 1, none⟩ (.bool r.s)).setCell ⟨go, 2, none⟩ (.slice r.A r.xs.length r.a)).setCell ⟨go, 3, none⟩ (.slice r.B r.ys.length r.b)) := by
  have hbs := h.b.size
  obtain ⟨A', k, rfl, _, hk1, hk2⟩ := h.gn.pl (fun p hp => (h.ok p hp).2)
  have hO1 : Off [go] W (((W.setCell ⟨go, 1, none⟩ (.bool r.s)).setCell ⟨go, 2, none⟩ (.slice r.A r.xs.length r.a)).setCell ⟨go, 3, none⟩ (.slice r.B r.ys.length r.b)) := (((Off.refl _ _).setCell _ _ (.inl (by simp))).setCell _ _ (.inl (by simp))).setCell _ _ (.inl (by simp))
  have hbox : Bk go #[.slice A' l.length k, .bool r.s, .slice r.A r.xs.length r.a, .slice r.B r.ys.length r.b] 27 (((W.setCell ⟨go, 1, none⟩ (.bool r.s)).setCell ⟨go, 2, none⟩ (.slice r.A r.xs.length r.a)).setCell ⟨go, 3, none⟩ (.slice r.B r.ys.length r.b)) := (((h.o.set (.bool r.s) rfl).set (.slice r.A r.xs.length r.a) rfl).set (.slice r.B r.ys.length r.b) rfl)
  have hno : ∀ u ∈ (#[.slice A' l.length k, .bool false, .slice none 0 0, .slice none 0 0] : Array Value).toList, noU u = true := by
    intro u hu
    simp at hu
    rcases hu with rfl | rfl | rfl <;> rfl
  have hr1 := h.r.off hO1 (by simp; have := h.ne.1; omega)
  have hO2 := off4 (w.heap.size + 1 + 1) (((W.setCell ⟨go, 1, none⟩ (.bool r.s)).setCell ⟨go, 2, none⟩ (.slice r.A r.xs.length r.a)).setCell ⟨go, 3, none⟩ (.slice r.B r.ys.length r.b)) (.slice A' l.length k) (.bool r.s) (.slice r.A r.xs.length r.a) (.slice r.B r.ys.length r.b)
  have at1 : ∀ p : Pt, p.At W → p.At _ := fun p hp => at_off hr1 (⟨h.o.sl hno hp.1 hO1, h.o.sl hno hp.2 hO1⟩ : p.At (((W.setCell ⟨go, 1, none⟩ (.bool r.s)).setCell ⟨go, 2, none⟩ (.slice r.A r.xs.length r.a)).setCell ⟨go, 3, none⟩ (.slice r.B r.ys.length r.b))) hO2
  have hgo1 : ∀ b, (Value.slice A' l.length k).ownBlock = some b → b ∉ [go] := fun b hb hm => by
    simp at hm
    subst hm
    exact h.ne.2 hb
  have hgo2 : ∀ b, (Value.slice A' l.length k).ownBlock = some b → b ∉ [w.heap.size + 1 + 1] := fun b hb hm => by
    simp at hm
    have := (h.gn.base b hb).1
    omega
  have hg2 := (h.gn.off hO1 hgo1).off hO2 hgo2
  obtain ⟨A2, k2, e2, hP, hk3, hk4⟩ := hg2.pl (fun p hp => at1 p (h.ok p hp).2)
  injection e2 with e2 _ e3
  subst e2
  subst e3
  refine ⟨A', k, rfl, ⟨A', k, l, r, rfl, rfl, rfl, hP, at1 r aR, fun p hp => (h.ok p hp).1, hr, ?_, hk3, hk4⟩, hbox, hr1⟩
  exact (h.b.trans (hO1.below hbs (fun b hb => by simp at hb; have := h.ne.1; omega))).trans (hO2.below (Nat.le_trans hbs hO1.size) (fun b hb => by simp at hb; omega))
end
theorem wp_buildP {Q : Exit → Act → World → Prop} {o : Oper} {a : Act} {w : World} {K : Act → World → Prop} (i : Nat) (p : Pt) (n1 n2 : Nat) (h1 : p.xs.length = n1) (h2 : p.ys.length = n2) (ho : o.op = .buildSlice 22 1 #[(0, .tmp i)]) (hx : a.tmps[i]?.getD undef = .agg #[.bool p.s, .slice p.A n1 p.a, .slice p.B n2 p.b, .int .i64 p.t])
    (hK : ∀ w', Bk w.heap.size #[.bool p.s, .slice p.A p.xs.length p.a, .slice p.B p.ys.length p.b, .int .i64 p.t] 83 w' → Below w.heap.size w w' → K (a.put o.dst (.slice (some ⟨w.heap.size, 0, none⟩) 1 1)) w') : Oper.wp Tryz.prog o a w K Q := by
  have h1' := hK (w.alloc (.cells #[.bool p.s, .slice p.A p.xs.length p.a, .slice p.B p.ys.length p.b, .int .i64 p.t] 83)) (Bk.new _ _ _) (bl_al (.refl _ _) _)
  clear hK
  rw [h1, h2] at h1'
  unfold Oper.wp
  simp only [execOp, ho]
  go_simp
  exact h1'

end Nt

end Go.Proofs.YtgimmmmpollkhaaGreat
