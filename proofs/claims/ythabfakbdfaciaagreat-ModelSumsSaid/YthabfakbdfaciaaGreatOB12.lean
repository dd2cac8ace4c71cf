import Derived.Test.YthabfakbdfaciaaGreatOB11
namespace Go.Proofs.YthabfakbdfaciaaGreat
namespace Nt
set_option maxRecDepth 100000
set_option linter.unusedSimpArgs false
set_option linter.unusedVariables false
set_option maxHeartbeats 16000000
section
open Go.ChangeShapes Go.RowKit
theorem make_hint (k : IntKind) (n : Int) (w : World) : (Instr.makeMap 105 (some (.int k n))).run Tryz.prog w = .ok (.map (some w.heap.size)) (w.alloc (.map #[] 0)) := by
  simp [Instr.makeMap, run_underlying Tryz.underlying105, asInt]
  rfl
theorem tablesOf_v (A : Option Addr) (c : Nat) (l : List Tr) (w : World) {Z : List Nat} (hl : Ts Z w A l) (nl : l.length ≤ 100000) (hs : ∀ t ∈ l, t.nm.size ≤ maxLen) :
    Calls Tryz.prog 51 #[.agg #[.slice A l.length c]] w fun e w' => ∃ m N, e = .returned (.map (some m)) ∧ w.heap.size ≤ m ∧ N ≤ l.length ∧ Tm w' m N l ∧ Below w.heap.size w w' := by
  obtain ⟨w0, hw0⟩ : ∃ W, W = w.alloc (.cells #[.slice A l.length c] 24) := ⟨_, rfl⟩
  have hb0 : Below w.heap.size w w0 := by rw [hw0]; exact bl_al (.refl _ _) _
  have X1 : Bk w.heap.size #[.slice A l.length c] 24 w0 := by rw [hw0]; exact Bk.new _ _ w
  have hsz := hide (show w0.heap.size = w.heap.size + 1 by rw [hw0]; simp)
  have hT : ∀ W, Below w0.heap.size w0 W → Ts Z W A l := fun W hW => (hl.next hb0).next hW
  have hM0 : Tm (w0.alloc (.map #[] 0)) w0.heap.size 0 [] := Tm.made w0
  rw [hsz.out] at hM0
  have p0 : w0.cell? ⟨w.heap.size, 0, none⟩ = some (.slice A l.length c) := X1.cell rfl
  replace hT := hide hT; replace hw0 := hide hw0; replace hb0 := hide hb0; replace hM0 := hide hM0; replace hs := hide hs
  have X1' := hide X1
  clear X1 hl
  generalize hn : l.length = n at *
  have hn' := hide hn
  clear hn
  have hmm := make_hint
  go_enter Tryz.func51, Tryz.ntmps51
  go_wp2_with fail
  go_loopw [15] (fun ix wr => ∃ i N : Nat, i ≤ n ∧ ix = .int .i64 (i : Int) ∧ Below w0.heap.size w0 wr ∧ N ≤ i ∧ Tm wr (w.heap.size + 1) N (l.take i)) (fun ix _ => n - (intOf ix).toNat)
  case atStart => exact ⟨0, 0, Nat.zero_le _, rfl, by rw [← hw0.out]; exact bl_al (.refl _ _) _, Nat.le_refl _, by rw [← hw0.out]; exact hM0.out⟩
  case round =>
    obtain ⟨i, N, hi, rfl, hbw, hN, hm⟩ := hrel
    by_cases hlt : i < n
    · have h1 : i < l.length := by rw [hn'.out]; exact hlt
      obtain ⟨hr1, hr2⟩ := hT.out wr hbw
      have hmem := List.getElem_mem h1
      obtain ⟨g1, o1, hA, _, x0, x1, x2, x3, x4, x5, x6, x7⟩ := hr1.at8 h1
      have hst := hs.out _ hmem
      have hb1 : Below wr.heap.size wr (wr.alloc (.cells #[.string l[i].nm, .slice l[i].A l[i].l.length l[i].c, .int .i64 l[i].e.so, .bool l[i].e.bo, .bool l[i].e.p.s, .slice l[i].e.p.A l[i].e.p.xs.length l[i].e.p.a, .slice l[i].e.p.B l[i].e.p.ys.length l[i].e.p.b, .int .i64 l[i].e.el] 37)) := bl_al (.refl _ _) _
      have hm1 := hm.next hb1
      obtain ⟨o, ho⟩ : ∃ o, findT (l.take i) l[i].nm.data.toList = o := ⟨_, rfl⟩
      have hlk := hm1.look l[i].nm hst o ho
      have htk := take_one h1
      have hbx := bl_trans hbw hb1
      have hB := (Bk.new #[.string l[i].nm, .slice l[i].A l[i].l.length l[i].c, .int .i64 l[i].e.so, .bool l[i].e.bo, .bool l[i].e.p.s, .slice l[i].e.p.A l[i].e.p.xs.length l[i].e.p.a, .slice l[i].e.p.B l[i].e.p.ys.length l[i].e.p.b, .int .i64 l[i].e.el] 37 wr)
      obtain ⟨q0, q1, q2, q3, q4, q5, q6, q7⟩ : _ ∧ _ ∧ _ ∧ _ ∧ _ ∧ _ ∧ _ ∧ _ := cells8 hB
      cases o with
      | some u =>
        have hm2 := (hm1.skip l[i] u ho).next (bl_al (.refl _ _) (.cells #[.string u.nm, .slice u.A u.l.length u.c, .int .i64 u.e.so, .bool u.e.bo, .bool u.e.p.s, .slice u.e.p.A u.e.p.xs.length u.e.p.a, .slice u.e.p.B u.e.p.ys.length u.e.p.b, .int .i64 u.e.el] 37))
        rw [← htk] at hm2
        have hbz := bl_trans hbx (bl_al (.refl _ _) (.cells #[.string u.nm, .slice u.A u.l.length u.c, .int .i64 u.e.so, .bool u.e.bo, .bool u.e.p.s, .slice u.e.p.A u.e.p.xs.length u.e.p.a, .slice u.e.p.B u.e.p.ys.length u.e.p.b, .int .i64 u.e.el] 37))
        clear hr1 hr2 hT hM0 hm hm1 hb1 htk ho hB
        unfold Tr.v at hlk
        rw [show ((some u).getD zTr) = u from rfl, show (some u).isSome = true from rfl] at hlk
        replace hm2 := hide hm2; replace hbz := hide hbz; replace hbx := hide hbx; replace hst := hide hst
        generalize l[i] = t at *
        rw [hA] at *
        generalize t.l.length = tn at *
        generalize t.e.p.xs.length = i1 at *
        generalize t.e.p.ys.length = i2 at *
        generalize u.l.length = un at *
        generalize u.e.p.xs.length = k1 at *
        generalize u.e.p.ys.length = k2 at *
        have hlt' : (i : Int) < (n : Int) := by omega
        go_wp2_with fail
        go_roundw
        case rel => exact ⟨i + 1, N, hlt, by go_num, hbz.out, by omega, hm2.out⟩
        case measure => simp only [intOf]; omega
      | none =>
        have hb2 : Below (wr.alloc (.cells #[.string l[i].nm, .slice l[i].A l[i].l.length l[i].c, .int .i64 l[i].e.so, .bool l[i].e.bo, .bool l[i].e.p.s, .slice l[i].e.p.A l[i].e.p.xs.length l[i].e.p.a, .slice l[i].e.p.B l[i].e.p.ys.length l[i].e.p.b, .int .i64 l[i].e.el] 37)).heap.size (wr.alloc (.cells #[.string l[i].nm, .slice l[i].A l[i].l.length l[i].c, .int .i64 l[i].e.so, .bool l[i].e.bo, .bool l[i].e.p.s, .slice l[i].e.p.A l[i].e.p.xs.length l[i].e.p.a, .slice l[i].e.p.B l[i].e.p.ys.length l[i].e.p.b, .int .i64 l[i].e.el] 37)) ((wr.alloc (.cells #[.string l[i].nm, .slice l[i].A l[i].l.length l[i].c, .int .i64 l[i].e.so, .bool l[i].e.bo, .bool l[i].e.p.s, .slice l[i].e.p.A l[i].e.p.xs.length l[i].e.p.a, .slice l[i].e.p.B l[i].e.p.ys.length l[i].e.p.b, .int .i64 l[i].e.el] 37)).alloc (.cells #[.string ⟨#[]⟩, .slice none 0 0, .int .i64 0, .bool false, .bool false, .slice none 0 0, .slice none 0 0, .int .i64 0] 37)) := bl_al (.refl _ _) _
        obtain ⟨W, hup, hm2, hO⟩ := (hm1.next hb2).store l[i] hst (by unfold maxLen; omega) ho
        rw [← htk] at hm2
        have hbz : Below w0.heap.size w0 W := (bl_trans hbx hb2).trans (hO.below (Nat.le_trans hbx.size hb2.size) (by intro b hb; simp at hb; have := hsz.out; omega))
        have hB2 := hB.next hb2
        obtain ⟨r0, r1, r2, r3, r4, r5, r6, r7⟩ : _ ∧ _ ∧ _ ∧ _ ∧ _ ∧ _ ∧ _ ∧ _ := cells8 hB2
        clear hr1 hr2 hT hM0 hm hm1 hb1 htk ho hB hO hB2 hb2
        rw [show ((none : Option Tr).getD zTr) = zTr from rfl, show (none : Option Tr).isSome = false from rfl] at hlk
        unfold Tr.v at hlk hup
        unfold zTr zVl at hlk
        dsimp only at hlk
        replace hm2 := hide hm2; replace hbz := hide hbz; replace hbx := hide hbx; replace hst := hide hst
        generalize l[i] = t at *
        rw [hA] at *
        generalize t.l.length = tn at *
        generalize t.e.p.xs.length = i1 at *
        generalize t.e.p.ys.length = i2 at *
        have hlt' : (i : Int) < (n : Int) := by omega
        go_wp2_with fail
        go_roundw
        case rel => exact ⟨i + 1, N + 1, hlt, by go_num, hbz.out, by omega, hm2.out⟩
        case measure => simp only [intOf]; omega
    · have hin : i = n := by omega
      subst hin
      have e1 : l.take i = l := by rw [← hn'.out]; exact List.take_length
      rw [e1] at hm
      have hbz := bl_trans hb0.out hbw
      clear hT hM0 e1
      replace hm := hide hm; replace hbz := hide hbz
      go_wp2_with fail
      go_ret
      exact ⟨_, N, rfl, by omega, hN, hm.out, hbz.out⟩
end
section
open Go.ChangeShapes Go.RowKit
theorem Vs.tail {Z : List Nat} {w : World} {A : Option Addr} {l : List Vl} (h : Vs Z w A l) (h1 : 1 ≤ l.length) (k : Nat) (hk : l.length ≤ k) (hm : k ≤ maxLen) :
    ∃ D, (∀ W : World, (Instr.slice 25 (.slice A l.length k) (some (.int .i64 1)) none none).run Tryz.prog W = .ok (.slice D (l.length - 1) (k - 1)) W) ∧ Vs Z w D (l.drop 1) := by
  obtain ⟨g, o, rfl, hg, _⟩ := h.1.get (show 0 < l.length by omega)
  have hz := Tryz.sizeOf30
  have h2 : (1 : Int) ≤ (l.length : Int) := by omega
  by_cases hk1 : k = 1
  · have hl1 : l.length = 1 := by omega
    refine ⟨some ⟨g, o, none⟩, fun W => ?_, .inl (by apply List.eq_nil_of_length_eq_zero; rw [List.length_drop]; omega), fun v hv => h.2 v (List.mem_of_mem_drop hv)⟩
    subst hk1
    simp [Instr.slice, Instr.sliceBounds, Instr.sliceBound, run_underlying Tryz.underlying25, asIntOf, go_sem, hl1]
  · refine ⟨some ⟨g, o + 6, none⟩, fun W => ?_, ?_, fun v hv => h.2 v (List.mem_of_mem_drop hv)⟩
    · have h4 : k - 1 ≠ 0 := by omega
      simp [Instr.slice, Instr.sliceBounds, Instr.sliceBound, run_underlying Tryz.underlying25, asIntOf, go_sem, h2, hk1, h4]
    · rcases h.1 with h | ⟨g', o', e, _, hc⟩
      · rw [h] at h1; simp at h1
      · cases e
        refine .inr ⟨g, o + 6, rfl, hg, fun i hi j v hv => ?_⟩
        rw [List.length_drop] at hi
        rw [List.getElem_drop] at hv
        have := hc (1 + i) (by omega) j v hv
        rw [show o + (1 + i) * rV.k + j = o + 6 + i * rV.k + j by rw [show rV.k = 6 from rfl]; omega] at this
        exact this
end
section
open Go.ChangeShapes Go.RowKit
def noneK (l : List Vl) (k : Nat) : Bool := (l.take k).all fun b => !vsame (l.getD k zVl) b
def noneSm (l : List Vl) : Bool := (List.range l.length).all (noneK l)
theorem noneSm_step {l : List Vl} {i : Nat} : (List.range (i + 1)).all (noneK l) = ((List.range i).all (noneK l) && noneK l i) := by
  rw [List.range_succ, List.all_append]
  simp
theorem noneSm_no {l : List Vl} {i : Nat} (hi : i < l.length) (h : noneK l i = false) : noneSm l = false := by
  unfold noneSm
  rw [List.all_eq_false]
  exact ⟨i, List.mem_range.2 hi, by simpa using h⟩
theorem all_no {p : Vl → Bool} {l : List Vl} {j : Nat} (hj : j < l.length) (h : p l[j] = false) : l.all p = false := by
  rw [List.all_eq_false]
  exact ⟨l[j], List.getElem_mem hj, by simpa using h⟩
theorem run_front (g o n c k : Nat) (hk : k ≤ n) (hn : n ≤ c) (hm : c ≤ maxLen) (W : World) : (Instr.slice 25 (.slice (some ⟨g, o, none⟩) n c) none (some (.int .i64 (k : Int))) none).run Tryz.prog W = .ok (.slice (some ⟨g, o, none⟩) k c) W := by
  have hz := Tryz.sizeOf30
  have h2 : (k : Int) ≤ (c : Int) := by omega
  have h3 : (0 : Int) ≤ (k : Int) := by omega
  have h4 : ¬ c < k := by omega
  have h5 : k ≤ c := by omega
  by_cases hc : c = 0
  · subst hc
    have : k = 0 := by omega
    subst this
    simp [Instr.slice, Instr.sliceBounds, Instr.sliceBound, run_underlying Tryz.underlying25, asIntOf, go_sem]
  · have hc' : ¬ (0 = c) := fun e => hc e.symm
    simp [Instr.slice, Instr.sliceBounds, Instr.sliceBound, run_underlying Tryz.underlying25, asIntOf, go_sem, h2, h3, h4, h5, hc, hc', Addr.add]
theorem noneSame_v (A : Option Addr) (c : Nat) (l : List Vl) (w : World) {Z : List Nat} (hl : Vs Z w A l) (fl : ∀ v ∈ l, v.Few) (nl : l.length ≤ 100000) (hc : l.length ≤ c) (hm : c ≤ maxLen) (r : Bool) (hr : noneSm l = r) :
    Calls Tryz.prog 133 #[.slice A l.length c] w fun e w' => e = .returned (.bool r) ∧ Below w.heap.size w w' := by
  have hS := hide (fun (a b : Vl) (ha : a ∈ l) (hb : b ∈ l) W (a1 : a.At W) (a2 : b.At W) (r : Bool) (hr : vsame a b = r) => same_v (fl a ha) (fl b hb) W a1 a2 r hr)
  have hP := hide (fun W (b : Below w.heap.size w W) => Vs.next hl b)
  have hsl := hide (fun (g o k : Nat) (hk : k ≤ l.length) => run_front g o l.length c k hk hc hm)
  replace hr := hide hr
  clear hl fl hc hm
  generalize hn : l.length = n at *
  have hn' := hide hn
  clear hn
  go_enter Tryz.func133, Tryz.ntmps133
  go_wp2_with fail
  go_loopw [9] (fun ix wr => ∃ i : Nat, i ≤ n ∧ ix = .int .i64 (i : Int) ∧ Below w.heap.size w wr ∧ (List.range i).all (noneK l) = true) (fun ix _ => n - (intOf ix).toNat)
  case atStart => exact ⟨0, Nat.zero_le _, rfl, .refl _ _, rfl⟩
  case round =>
    obtain ⟨i, hi, rfl, hbw, hall⟩ := hrel
    generalize wr = wo at *
    by_cases hlt : i < n
    · have h2 : i < l.length := by rw [hn'.out]; exact hlt
      obtain ⟨g1, o1, rfl, _, x0, x1, x2, x3, x4, x5⟩ := (hP.out wo hbw).1.at6 h2
      have hsi := hsl.out g1 o1 i hi
      obtain ⟨wA, hwA⟩ : ∃ W, W = wo.alloc (.cells #[.int .i64 l[i].so, .bool l[i].bo, .bool l[i].p.s, .slice l[i].p.A l[i].p.xs.length l[i].p.a, .slice l[i].p.B l[i].p.ys.length l[i].p.b, .int .i64 l[i].el] 30) := ⟨_, rfl⟩
      have hb1 : Below wo.heap.size wo wA := by rw [hwA]; exact bl_al (.refl _ _) _
      have hK : Bk wo.heap.size #[.int .i64 l[i].so, .bool l[i].bo, .bool l[i].p.s, .slice l[i].p.A l[i].p.xs.length l[i].p.a, .slice l[i].p.B l[i].p.ys.length l[i].p.b, .int .i64 l[i].el] 30 wA := by rw [hwA]; exact Bk.new _ _ _
      have hmi := List.getElem_mem h2
      have hSi := fun (b : Vl) (hb : b ∈ l) (W : World) (h : Below wo.heap.size wo W) (a2 : b.At W) (r : Bool) (hr : vsame l[i] b = r) => hS.out l[i] b hmi hb W (((hP.out wo hbw).2 _ hmi).next h) a2 r hr
      have hgd : l.getD i zVl = l[i] := by rw [List.getD_eq_getElem?_getD, List.getElem?_eq_getElem h2]; rfl
      have hlt' : (i : Int) < (n : Int) := by omega
      generalize hqi : l[i] = q at *
      replace hqi := hide hqi
      unfold Vl.v at hSi
      replace hSi := hide hSi; replace hK := hide hK; replace hb1 := hide hb1; replace hwA := hide hwA; replace hgd := hide hgd; replace hall := hide hall
      clear hS hmi
      generalize q.p.xs.length = j1 at *
      generalize q.p.ys.length = j2 at *
      go_wp2_with fail
      go_loopw [18] (fun ix wr => ∃ k : Nat, k ≤ i ∧ ix = .int .i64 (k : Int) ∧ Below wA.heap.size wA wr ∧ (l.take k).all (fun b => !vsame q b) = true) (fun ix _ => i - (intOf ix).toNat)
      case atStart => exact ⟨0, Nat.zero_le _, rfl, by rw [← hwA.out]; exact .refl _ _, rfl⟩
      case round =>
        obtain ⟨k, hk, rfl, hbi, hal⟩ := hrel
        have hwr := bl_trans hb1.out hbi
        by_cases hki : k < i
        · have h3 : k < l.length := by rw [hn'.out]; omega
          have hPk := hP.out wr (bl_trans hbw hwr)
          obtain ⟨g2, o2, he, _, y0, y1, y2, y3, y4, y5⟩ := hPk.1.at6 h3
          cases he
          have a2 := hPk.2 _ (List.getElem_mem h3)
          have hb2 : Below wr.heap.size wr (wr.alloc (.cells #[.int .i64 l[k].so, .bool l[k].bo, .bool l[k].p.s, .slice l[k].p.A l[k].p.xs.length l[k].p.a, .slice l[k].p.B l[k].p.ys.length l[k].p.b, .int .i64 l[k].el] 30)) := bl_al (.refl _ _) _
          obtain ⟨z0, z1, z2, z3, z4, z5⟩ := (C6.of (hK.out.next hbi)).next hb2
          obtain ⟨b, hb⟩ : ∃ b, vsame q l[k] = b := ⟨_, rfl⟩
          have hS2 := hSi.out l[k] (List.getElem_mem h3) _ (bl_trans hwr hb2) (a2.next hb2) b hb
          have htk : (l.take (k + 1)).all (fun b => !vsame q b) = ((l.take k).all (fun b => !vsame q b) && !vsame q l[k]) := by rw [take_one h3, List.all_append]; simp
          rw [hal, hb, Bool.true_and] at htk
          have hno : b = true → noneSm l = false := fun e => by
            refine noneSm_no (i := i) h2 ?_
            unfold noneK
            rw [hgd.out]
            refine all_no (j := k) (by rw [List.length_take]; omega) ?_
            rw [List.getElem_take, hb, e]
            rfl
          have hbz := hide (bl_trans hbi hb2)
          have hbx := hide (bl_trans hbw (bl_trans hwr hb2))
          clear hPk a2 hb2 hb hal
          replace hS2 := hide hS2; replace htk := hide htk; replace hno := hide hno
          generalize l[k] = p at *
          generalize p.p.xs.length = i1 at *
          generalize p.p.ys.length = i2 at *
          have hki' : (k : Int) < (i : Int) := by omega
          cases b with
          | true =>
            go_wp2_with (go_at_call 10; (with_reducible refine hS2.out.mono ?_); rintro e wa ⟨rfl, hb3⟩; replace hb3 := hide hb3)
            go_ret
            exact ⟨by rw [← hr.out, hno.out (by trivial)]; rfl, bl_trans hbx.out hb3.out⟩
          | false =>
            go_wp2_with (go_at_call 10; (with_reducible refine hS2.out.mono ?_); rintro e wa ⟨rfl, hb3⟩; replace hb3 := hide hb3)
            go_roundw
            case rel => exact ⟨k + 1, hki, by go_num, bl_trans hbz.out hb3.out, htk.out⟩
            case measure => simp only [intOf]; omega
        · have hki2 : k = i := by omega
          subst hki2
          have hnx : (List.range (k + 1)).all (noneK l) = true := by
            rw [noneSm_step, hall.out, Bool.true_and]
            unfold noneK
            rw [hgd.out]
            exact hal
          replace hnx := hide hnx
          have hbx := hide (bl_trans hbw hwr)
          clear hal
          go_wp2_with fail
          go_roundw
          case rel => exact ⟨k + 1, hlt, by go_num, hbx.out, hnx.out⟩
          case measure => simp only [intOf]; omega
    · have hin : i = n := by omega
      have hd : r = true := by rw [← hr.out]; unfold noneSm; rw [hn'.out, ← hin]; exact hall
      subst hin
      clear hall hr
      subst hd
      go_wp2_with fail
      go_ret
      exact ⟨rfl, hbw⟩
def eachB (P : Int → Bool) : List Vl → Bool
  | a :: b :: l => P (cmpQ a.p.q b.p.q) && eachB P (b :: l)
  | _ => true
theorem eachB_step {P : Int → Bool} {a : Vl} {l : List Vl} {i : Nat} (hi : i < l.length) : eachB P ((a :: l).drop i) = (P (cmpQ ((a :: l)[i]'(by simp; omega)).p.q l[i].p.q) && eachB P ((a :: l).drop (i + 1))) := by
  rw [List.drop_eq_getElem_cons (show i < (a :: l).length by simp; omega), show (a :: l).drop (i + 1) = l.drop i from rfl, List.drop_eq_getElem_cons hi]
  rfl
theorem so1_v (k : Int) (w : World) : Calls Tryz.prog 135 #[.int .i64 k] w fun e w' => e = .returned (.bool (decide (k ≤ 0))) ∧ w = w' := by
  obtain ⟨b, hb⟩ : ∃ b, decide (k ≤ 0) = b := ⟨_, rfl⟩
  have q1 := (show binOp .leq 3 (.int .i64 k) (.int .i64 0) = pure (.bool b) by subst hb; first | rfl | (simp [binOp]; rfl))
  rw [hb]
  clear hb
  go_enter Tryz.func135, Tryz.ntmps135
  go_wp2
  go_ret
  exact ⟨rfl, rfl⟩
theorem so2_v (k : Int) (w : World) : Calls Tryz.prog 136 #[.int .i64 k] w fun e w' => e = .returned (.bool (decide (k < 0))) ∧ w = w' := by
  obtain ⟨b, hb⟩ : ∃ b, decide (k < 0) = b := ⟨_, rfl⟩
  have q1 := (show binOp .lss 3 (.int .i64 k) (.int .i64 0) = pure (.bool b) by subst hb; first | rfl | (simp [binOp]; rfl))
  rw [hb]
  clear hb
  go_enter Tryz.func136, Tryz.ntmps136
  go_wp2
  go_ret
  exact ⟨rfl, rfl⟩
theorem so3_v (k : Int) (w : World) : Calls Tryz.prog 137 #[.int .i64 k] w fun e w' => e = .returned (.bool (decide (0 ≤ k))) ∧ w = w' := by
  obtain ⟨b, hb⟩ : ∃ b, decide (0 ≤ k) = b := ⟨_, rfl⟩
  have q1 := (show binOp .geq 3 (.int .i64 k) (.int .i64 0) = pure (.bool b) by subst hb; first | rfl | (simp [binOp]; rfl))
  rw [hb]
  clear hb
  go_enter Tryz.func137, Tryz.ntmps137
  go_wp2
  go_ret
  exact ⟨rfl, rfl⟩
theorem so4_v (k : Int) (w : World) : Calls Tryz.prog 138 #[.int .i64 k] w fun e w' => e = .returned (.bool (decide (0 < k))) ∧ w = w' := by
  obtain ⟨b, hb⟩ : ∃ b, decide (0 < k) = b := ⟨_, rfl⟩
  have q1 := (show binOp .gtr 3 (.int .i64 k) (.int .i64 0) = pure (.bool b) by subst hb; first | rfl | (simp [binOp]; rfl))
  rw [hb]
  clear hb
  go_enter Tryz.func138, Tryz.ntmps138
  go_wp2
  go_ret
  exact ⟨rfl, rfl⟩
end
section
open Go.ChangeShapes Go.RowKit
theorem cmp_p {p r : Pt} (hp : p.Ok) (hr : r.Ok) (w : World) (aP : p.At w) (aR : r.At w) : Calls Tryz.prog 159 #[rv p, rv r] w fun e w' => e = .returned (.int .i64 (cmpQ p.q r.q)) ∧ Below w.heap.size w w' := by
  rw [hp.rv, hr.rv]
  exact cmp_q p.q r.q _ _ _ _ _ _ _ _ w (hp.sl aP).1 (hp.sl aP).2 (hr.sl aR).1 (hr.sl aR).2 hp.f hr.f _ rfl
theorem each1_v (A : Option Addr) (c : Nat) (a : Vl) (l : List Vl) (w : World) {Z : List Nat} (hl : Vs Z w A (a :: l)) (fl : ∀ v ∈ a :: l, v.p.Ok) (nl : l.length ≤ 100000) (hc : l.length + 1 ≤ c) (hm : c ≤ maxLen) (r : Bool) (hr : eachB (fun k => decide (k ≤ 0)) (a :: l) = r) :
    Calls Tryz.prog 134 #[.slice A (l.length + 1) c, .func (.func 135) #[] #[]] w fun e w' => e = .returned (.bool r) ∧ Below w.heap.size w w' := by
  obtain ⟨D, hsl, hD⟩ := hl.tail (by simp) c (by simpa using hc) hm
  have hS := hide (fun (a' b : Vl) (ha : a' ∈ a :: l) (hb : b ∈ a :: l) W (a1 : a'.At W) (a2 : b.At W) => cmp_p (fl a' ha) (fl b hb) W a1 a2)
  have hP := hide (fun W (b : Below w.heap.size w W) => Vs.next hl b)
  have hQ := hide (fun W (b : Below w.heap.size w W) => Vs.next hD b)
  have hF := hide (fun k W => so1_v k W)
  rw [show (a :: l).drop 1 = l from rfl] at hQ
  rw [show (a :: l).length = l.length + 1 from rfl, Nat.add_sub_cancel] at hsl
  replace hr := hide hr
  clear hl hD fl
  generalize hn : l.length = n at *
  have hn' := hide hn
  clear hn
  have hm' : c ≤ 9223372036854775807 := by unfold maxLen at hm; omega
  clear hm
  go_enter Tryz.func134, Tryz.ntmps134
  go_wp2_with fail
  go_loopw [10] (fun ix wr => ∃ i : Nat, i ≤ n ∧ ix = .int .i64 (i : Int) ∧ Below w.heap.size w wr ∧ eachB (fun k => decide (k ≤ 0)) ((a :: l).drop i) = r) (fun ix _ => n - (intOf ix).toNat)
  case atStart => exact ⟨0, Nat.zero_le _, rfl, .refl _ _, hr.out⟩
  case round =>
    obtain ⟨i, hi, rfl, hbw, htk⟩ := hrel
    by_cases hlt : i < n
    · have h2 : i < l.length := by rw [hn'.out]; exact hlt
      have h1 : i < (a :: l).length := by simp; omega
      rw [eachB_step h2] at htk
      have hA := hP.out wr hbw
      have hB := hQ.out wr hbw
      have a1 := hA.2 _ (List.getElem_mem h1)
      have a2 := hB.2 _ (List.getElem_mem h2)
      obtain ⟨g1, o1, rfl, _, x0, x1, x2, x3, x4, x5⟩ := hA.1.at6 h1
      obtain ⟨g2, o2, hDD, _, y0, y1, y2, y3, y4, y5⟩ := hB.1.at6 h2
      obtain ⟨wA, hwA⟩ : ∃ W, W = wr.alloc (.cells #[.int .i64 l[i].so, .bool l[i].bo, .bool l[i].p.s, .slice l[i].p.A l[i].p.xs.length l[i].p.a, .slice l[i].p.B l[i].p.ys.length l[i].p.b, .int .i64 l[i].el] 30) := ⟨_, rfl⟩
      have hb1 : Below wr.heap.size wr wA := by rw [hwA]; exact bl_al (.refl _ _) _
      have hbd : Below wr.heap.size wr wA.drew := hb1.drew
      have hS2 := hS.out _ l[i] (List.getElem_mem h1) (List.mem_cons_of_mem _ (List.getElem_mem h2)) wA.drew (a1.next hbd) (a2.next hbd)
      have hK : Bk wr.heap.size #[.int .i64 l[i].so, .bool l[i].bo, .bool l[i].p.s, .slice l[i].p.A l[i].p.xs.length l[i].p.a, .slice l[i].p.B l[i].p.ys.length l[i].p.b, .int .i64 l[i].el] 30 wA := by rw [hwA]; exact Bk.new _ _ _
      obtain ⟨z0, z1, z2, z3, z4, z5⟩ := C6.of hK
      have u2 := cell_next hb1 x2
      have u3 := cell_next hb1 x3
      have u4 := cell_next hb1 x4
      rw [hwA] at z0 z1 z2 z3 z4 z5 u2 u3 u4 hS2
      have hbdd := hide (bl_trans hbw hbd)
      rw [hwA] at hbdd
      clear a1 a2 hA hB hK hb1 hbd x0 x1 x2 x3 x4 x5 hP hQ hS hwA
      unfold rv at hS2
      generalize (a :: l)[i] = p at *
      generalize l[i] = q at *
      rw [hDD] at *
      generalize cmpQ p.p.q q.p.q = cq at *
      obtain ⟨b, hb⟩ : ∃ b, (decide (cq ≤ 0)) = b := ⟨_, rfl⟩
      have hF2 := hF.out cq
      rw [hb] at htk hF2
      clear hb hF
      replace hS2 := hide hS2; replace htk := hide htk; replace hF2 := hide hF2
      generalize q.p.xs.length = i1 at *
      generalize q.p.ys.length = i2 at *
      generalize p.p.xs.length = j1 at *
      generalize p.p.ys.length = j2 at *
      have hlt' : (i : Int) < (n : Int) := by omega
      cases b with
      | false =>
        go_wp2_with fail
        go_region_with (first
          | (go_at_call 159; (with_reducible refine hS2.out.mono ?_); rintro e wa ⟨rfl, hb3⟩; replace hb3 := hide hb3)
          | (go_at_call 135; (with_reducible refine (hF2.out _).mono ?_); rintro e wb ⟨rfl, rfl⟩))
        all_goals
          go_wp2_with fail
          go_ret
          exact ⟨by rw [← htk.out]; rfl, bl_trans hbdd.out hb3.out⟩
      | true =>
        go_wp2_with fail
        go_region_with (first
          | (go_at_call 159; (with_reducible refine hS2.out.mono ?_); rintro e wa ⟨rfl, hb3⟩; replace hb3 := hide hb3)
          | (go_at_call 135; (with_reducible refine (hF2.out _).mono ?_); rintro e wb ⟨rfl, rfl⟩))
        all_goals
          go_wp2_with fail
          go_roundw
          case rel => exact ⟨i + 1, hlt, by go_num, bl_trans hbdd.out hb3.out, by have := htk.out; rwa [Bool.true_and] at this⟩
          case measure => simp only [intOf]; omega
    · have hin : i = n := by omega
      have e1 : ∃ z, (a :: l).drop i = [z] := by
        have h1 : i < (a :: l).length := by simp; rw [hn'.out]; omega
        refine ⟨(a :: l)[i], ?_⟩
        rw [List.drop_eq_getElem_cons h1, List.drop_eq_nil_of_le (by simp; rw [hn'.out]; omega)]
      obtain ⟨z, e1⟩ := e1
      rw [e1] at htk
      subst hin
      have hd : r = true := htk.symm
      clear htk e1 hr
      subst hd
      go_wp2_with fail
      go_ret
      exact ⟨rfl, hbw⟩
theorem each2_v (A : Option Addr) (c : Nat) (a : Vl) (l : List Vl) (w : World) {Z : List Nat} (hl : Vs Z w A (a :: l)) (fl : ∀ v ∈ a :: l, v.p.Ok) (nl : l.length ≤ 100000) (hc : l.length + 1 ≤ c) (hm : c ≤ maxLen) (r : Bool) (hr : eachB (fun k => decide (k < 0)) (a :: l) = r) :
    Calls Tryz.prog 134 #[.slice A (l.length + 1) c, .func (.func 136) #[] #[]] w fun e w' => e = .returned (.bool r) ∧ Below w.heap.size w w' := by
  obtain ⟨D, hsl, hD⟩ := hl.tail (by simp) c (by simpa using hc) hm
  have hS := hide (fun (a' b : Vl) (ha : a' ∈ a :: l) (hb : b ∈ a :: l) W (a1 : a'.At W) (a2 : b.At W) => cmp_p (fl a' ha) (fl b hb) W a1 a2)
  have hP := hide (fun W (b : Below w.heap.size w W) => Vs.next hl b)
  have hQ := hide (fun W (b : Below w.heap.size w W) => Vs.next hD b)
  have hF := hide (fun k W => so2_v k W)
  rw [show (a :: l).drop 1 = l from rfl] at hQ
  rw [show (a :: l).length = l.length + 1 from rfl, Nat.add_sub_cancel] at hsl
  replace hr := hide hr
  clear hl hD fl
  generalize hn : l.length = n at *
  have hn' := hide hn
  clear hn
  have hm' : c ≤ 9223372036854775807 := by unfold maxLen at hm; omega
  clear hm
  go_enter Tryz.func134, Tryz.ntmps134
  go_wp2_with fail
  go_loopw [10] (fun ix wr => ∃ i : Nat, i ≤ n ∧ ix = .int .i64 (i : Int) ∧ Below w.heap.size w wr ∧ eachB (fun k => decide (k < 0)) ((a :: l).drop i) = r) (fun ix _ => n - (intOf ix).toNat)
  case atStart => exact ⟨0, Nat.zero_le _, rfl, .refl _ _, hr.out⟩
  case round =>
    obtain ⟨i, hi, rfl, hbw, htk⟩ := hrel
    by_cases hlt : i < n
    · have h2 : i < l.length := by rw [hn'.out]; exact hlt
      have h1 : i < (a :: l).length := by simp; omega
      rw [eachB_step h2] at htk
      have hA := hP.out wr hbw
      have hB := hQ.out wr hbw
      have a1 := hA.2 _ (List.getElem_mem h1)
      have a2 := hB.2 _ (List.getElem_mem h2)
      obtain ⟨g1, o1, rfl, _, x0, x1, x2, x3, x4, x5⟩ := hA.1.at6 h1
      obtain ⟨g2, o2, hDD, _, y0, y1, y2, y3, y4, y5⟩ := hB.1.at6 h2
      obtain ⟨wA, hwA⟩ : ∃ W, W = wr.alloc (.cells #[.int .i64 l[i].so, .bool l[i].bo, .bool l[i].p.s, .slice l[i].p.A l[i].p.xs.length l[i].p.a, .slice l[i].p.B l[i].p.ys.length l[i].p.b, .int .i64 l[i].el] 30) := ⟨_, rfl⟩
      have hb1 : Below wr.heap.size wr wA := by rw [hwA]; exact bl_al (.refl _ _) _
      have hbd : Below wr.heap.size wr wA.drew := hb1.drew
      have hS2 := hS.out _ l[i] (List.getElem_mem h1) (List.mem_cons_of_mem _ (List.getElem_mem h2)) wA.drew (a1.next hbd) (a2.next hbd)
      have hK : Bk wr.heap.size #[.int .i64 l[i].so, .bool l[i].bo, .bool l[i].p.s, .slice l[i].p.A l[i].p.xs.length l[i].p.a, .slice l[i].p.B l[i].p.ys.length l[i].p.b, .int .i64 l[i].el] 30 wA := by rw [hwA]; exact Bk.new _ _ _
      obtain ⟨z0, z1, z2, z3, z4, z5⟩ := C6.of hK
      have u2 := cell_next hb1 x2
      have u3 := cell_next hb1 x3
      have u4 := cell_next hb1 x4
      rw [hwA] at z0 z1 z2 z3 z4 z5 u2 u3 u4 hS2
      have hbdd := hide (bl_trans hbw hbd)
      rw [hwA] at hbdd
      clear a1 a2 hA hB hK hb1 hbd x0 x1 x2 x3 x4 x5 hP hQ hS hwA
      unfold rv at hS2
      generalize (a :: l)[i] = p at *
      generalize l[i] = q at *
      rw [hDD] at *
      generalize cmpQ p.p.q q.p.q = cq at *
      obtain ⟨b, hb⟩ : ∃ b, (decide (cq < 0)) = b := ⟨_, rfl⟩
      have hF2 := hF.out cq
      rw [hb] at htk hF2
      clear hb hF
      replace hS2 := hide hS2; replace htk := hide htk; replace hF2 := hide hF2
      generalize q.p.xs.length = i1 at *
      generalize q.p.ys.length = i2 at *
      generalize p.p.xs.length = j1 at *
      generalize p.p.ys.length = j2 at *
      have hlt' : (i : Int) < (n : Int) := by omega
      cases b with
      | false =>
        go_wp2_with fail
        go_region_with (first
          | (go_at_call 159; (with_reducible refine hS2.out.mono ?_); rintro e wa ⟨rfl, hb3⟩; replace hb3 := hide hb3)
          | (go_at_call 136; (with_reducible refine (hF2.out _).mono ?_); rintro e wb ⟨rfl, rfl⟩))
        all_goals
          go_wp2_with fail
          go_ret
          exact ⟨by rw [← htk.out]; rfl, bl_trans hbdd.out hb3.out⟩
      | true =>
        go_wp2_with fail
        go_region_with (first
          | (go_at_call 159; (with_reducible refine hS2.out.mono ?_); rintro e wa ⟨rfl, hb3⟩; replace hb3 := hide hb3)
          | (go_at_call 136; (with_reducible refine (hF2.out _).mono ?_); rintro e wb ⟨rfl, rfl⟩))
        all_goals
          go_wp2_with fail
          go_roundw
          case rel => exact ⟨i + 1, hlt, by go_num, bl_trans hbdd.out hb3.out, by have := htk.out; rwa [Bool.true_and] at this⟩
          case measure => simp only [intOf]; omega
    · have hin : i = n := by omega
      have e1 : ∃ z, (a :: l).drop i = [z] := by
        have h1 : i < (a :: l).length := by simp; rw [hn'.out]; omega
        refine ⟨(a :: l)[i], ?_⟩
        rw [List.drop_eq_getElem_cons h1, List.drop_eq_nil_of_le (by simp; rw [hn'.out]; omega)]
      obtain ⟨z, e1⟩ := e1
      rw [e1] at htk
      subst hin
      have hd : r = true := htk.symm
      clear htk e1 hr
      subst hd
      go_wp2_with fail
      go_ret
      exact ⟨rfl, hbw⟩
theorem each3_v (A : Option Addr) (c : Nat) (a : Vl) (l : List Vl) (w : World) {Z : List Nat} (hl : Vs Z w A (a :: l)) (fl : ∀ v ∈ a :: l, v.p.Ok) (nl : l.length ≤ 100000) (hc : l.length + 1 ≤ c) (hm : c ≤ maxLen) (r : Bool) (hr : eachB (fun k => decide (0 ≤ k)) (a :: l) = r) :
    Calls Tryz.prog 134 #[.slice A (l.length + 1) c, .func (.func 137) #[] #[]] w fun e w' => e = .returned (.bool r) ∧ Below w.heap.size w w' := by
  obtain ⟨D, hsl, hD⟩ := hl.tail (by simp) c (by simpa using hc) hm
  have hS := hide (fun (a' b : Vl) (ha : a' ∈ a :: l) (hb : b ∈ a :: l) W (a1 : a'.At W) (a2 : b.At W) => cmp_p (fl a' ha) (fl b hb) W a1 a2)
  have hP := hide (fun W (b : Below w.heap.size w W) => Vs.next hl b)
  have hQ := hide (fun W (b : Below w.heap.size w W) => Vs.next hD b)
  have hF := hide (fun k W => so3_v k W)
  rw [show (a :: l).drop 1 = l from rfl] at hQ
  rw [show (a :: l).length = l.length + 1 from rfl, Nat.add_sub_cancel] at hsl
  replace hr := hide hr
  clear hl hD fl
  generalize hn : l.length = n at *
  have hn' := hide hn
  clear hn
  have hm' : c ≤ 9223372036854775807 := by unfold maxLen at hm; omega
  clear hm
  go_enter Tryz.func134, Tryz.ntmps134
  go_wp2_with fail
  go_loopw [10] (fun ix wr => ∃ i : Nat, i ≤ n ∧ ix = .int .i64 (i : Int) ∧ Below w.heap.size w wr ∧ eachB (fun k => decide (0 ≤ k)) ((a :: l).drop i) = r) (fun ix _ => n - (intOf ix).toNat)
  case atStart => exact ⟨0, Nat.zero_le _, rfl, .refl _ _, hr.out⟩
  case round =>
    obtain ⟨i, hi, rfl, hbw, htk⟩ := hrel
    by_cases hlt : i < n
    · have h2 : i < l.length := by rw [hn'.out]; exact hlt
      have h1 : i < (a :: l).length := by simp; omega
      rw [eachB_step h2] at htk
      have hA := hP.out wr hbw
      have hB := hQ.out wr hbw
      have a1 := hA.2 _ (List.getElem_mem h1)
      have a2 := hB.2 _ (List.getElem_mem h2)
      obtain ⟨g1, o1, rfl, _, x0, x1, x2, x3, x4, x5⟩ := hA.1.at6 h1
      obtain ⟨g2, o2, hDD, _, y0, y1, y2, y3, y4, y5⟩ := hB.1.at6 h2
      obtain ⟨wA, hwA⟩ : ∃ W, W = wr.alloc (.cells #[.int .i64 l[i].so, .bool l[i].bo, .bool l[i].p.s, .slice l[i].p.A l[i].p.xs.length l[i].p.a, .slice l[i].p.B l[i].p.ys.length l[i].p.b, .int .i64 l[i].el] 30) := ⟨_, rfl⟩
      have hb1 : Below wr.heap.size wr wA := by rw [hwA]; exact bl_al (.refl _ _) _
      have hbd : Below wr.heap.size wr wA.drew := hb1.drew
      have hS2 := hS.out _ l[i] (List.getElem_mem h1) (List.mem_cons_of_mem _ (List.getElem_mem h2)) wA.drew (a1.next hbd) (a2.next hbd)
      have hK : Bk wr.heap.size #[.int .i64 l[i].so, .bool l[i].bo, .bool l[i].p.s, .slice l[i].p.A l[i].p.xs.length l[i].p.a, .slice l[i].p.B l[i].p.ys.length l[i].p.b, .int .i64 l[i].el] 30 wA := by rw [hwA]; exact Bk.new _ _ _
      obtain ⟨z0, z1, z2, z3, z4, z5⟩ := C6.of hK
      have u2 := cell_next hb1 x2
      have u3 := cell_next hb1 x3
      have u4 := cell_next hb1 x4
      rw [hwA] at z0 z1 z2 z3 z4 z5 u2 u3 u4 hS2
      have hbdd := hide (bl_trans hbw hbd)
      rw [hwA] at hbdd
      clear a1 a2 hA hB hK hb1 hbd x0 x1 x2 x3 x4 x5 hP hQ hS hwA
      unfold rv at hS2
      generalize (a :: l)[i] = p at *
      generalize l[i] = q at *
      rw [hDD] at *
      generalize cmpQ p.p.q q.p.q = cq at *
      obtain ⟨b, hb⟩ : ∃ b, (decide (0 ≤ cq)) = b := ⟨_, rfl⟩
      have hF2 := hF.out cq
      rw [hb] at htk hF2
      clear hb hF
      replace hS2 := hide hS2; replace htk := hide htk; replace hF2 := hide hF2
      generalize q.p.xs.length = i1 at *
      generalize q.p.ys.length = i2 at *
      generalize p.p.xs.length = j1 at *
      generalize p.p.ys.length = j2 at *
      have hlt' : (i : Int) < (n : Int) := by omega
      cases b with
      | false =>
        go_wp2_with fail
        go_region_with (first
          | (go_at_call 159; (with_reducible refine hS2.out.mono ?_); rintro e wa ⟨rfl, hb3⟩; replace hb3 := hide hb3)
          | (go_at_call 137; (with_reducible refine (hF2.out _).mono ?_); rintro e wb ⟨rfl, rfl⟩))
        all_goals
          go_wp2_with fail
          go_ret
          exact ⟨by rw [← htk.out]; rfl, bl_trans hbdd.out hb3.out⟩
      | true =>
        go_wp2_with fail
        go_region_with (first
          | (go_at_call 159; (with_reducible refine hS2.out.mono ?_); rintro e wa ⟨rfl, hb3⟩; replace hb3 := hide hb3)
          | (go_at_call 137; (with_reducible refine (hF2.out _).mono ?_); rintro e wb ⟨rfl, rfl⟩))
        all_goals
          go_wp2_with fail
          go_roundw
          case rel => exact ⟨i + 1, hlt, by go_num, bl_trans hbdd.out hb3.out, by have := htk.out; rwa [Bool.true_and] at this⟩
          case measure => simp only [intOf]; omega
    · have hin : i = n := by omega
      have e1 : ∃ z, (a :: l).drop i = [z] := by
        have h1 : i < (a :: l).length := by simp; rw [hn'.out]; omega
        refine ⟨(a :: l)[i], ?_⟩
        rw [List.drop_eq_getElem_cons h1, List.drop_eq_nil_of_le (by simp; rw [hn'.out]; omega)]
      obtain ⟨z, e1⟩ := e1
      rw [e1] at htk
      subst hin
      have hd : r = true := htk.symm
      clear htk e1 hr
      subst hd
      go_wp2_with fail
      go_ret
      exact ⟨rfl, hbw⟩
theorem each4_v (A : Option Addr) (c : Nat) (a : Vl) (l : List Vl) (w : World) {Z : List Nat} (hl : Vs Z w A (a :: l)) (fl : ∀ v ∈ a :: l, v.p.Ok) (nl : l.length ≤ 100000) (hc : l.length + 1 ≤ c) (hm : c ≤ maxLen) (r : Bool) (hr : eachB (fun k => decide (0 < k)) (a :: l) = r) :
    Calls Tryz.prog 134 #[.slice A (l.length + 1) c, .func (.func 138) #[] #[]] w fun e w' => e = .returned (.bool r) ∧ Below w.heap.size w w' := by
  obtain ⟨D, hsl, hD⟩ := hl.tail (by simp) c (by simpa using hc) hm
  have hS := hide (fun (a' b : Vl) (ha : a' ∈ a :: l) (hb : b ∈ a :: l) W (a1 : a'.At W) (a2 : b.At W) => cmp_p (fl a' ha) (fl b hb) W a1 a2)
  have hP := hide (fun W (b : Below w.heap.size w W) => Vs.next hl b)
  have hQ := hide (fun W (b : Below w.heap.size w W) => Vs.next hD b)
  have hF := hide (fun k W => so4_v k W)
  rw [show (a :: l).drop 1 = l from rfl] at hQ
  rw [show (a :: l).length = l.length + 1 from rfl, Nat.add_sub_cancel] at hsl
  replace hr := hide hr
  clear hl hD fl
  generalize hn : l.length = n at *
  have hn' := hide hn
  clear hn
  have hm' : c ≤ 9223372036854775807 := by unfold maxLen at hm; omega
  clear hm
  go_enter Tryz.func134, Tryz.ntmps134
  go_wp2_with fail
  go_loopw [10] (fun ix wr => ∃ i : Nat, i ≤ n ∧ ix = .int .i64 (i : Int) ∧ Below w.heap.size w wr ∧ eachB (fun k => decide (0 < k)) ((a :: l).drop i) = r) (fun ix _ => n - (intOf ix).toNat)
  case atStart => exact ⟨0, Nat.zero_le _, rfl, .refl _ _, hr.out⟩
  case round =>
    obtain ⟨i, hi, rfl, hbw, htk⟩ := hrel
    by_cases hlt : i < n
    · have h2 : i < l.length := by rw [hn'.out]; exact hlt
      have h1 : i < (a :: l).length := by simp; omega
      rw [eachB_step h2] at htk
      have hA := hP.out wr hbw
      have hB := hQ.out wr hbw
      have a1 := hA.2 _ (List.getElem_mem h1)
      have a2 := hB.2 _ (List.getElem_mem h2)
      obtain ⟨g1, o1, rfl, _, x0, x1, x2, x3, x4, x5⟩ := hA.1.at6 h1
      obtain ⟨g2, o2, hDD, _, y0, y1, y2, y3, y4, y5⟩ := hB.1.at6 h2
      obtain ⟨wA, hwA⟩ : ∃ W, W = wr.alloc (.cells #[.int .i64 l[i].so, .bool l[i].bo, .bool l[i].p.s, .slice l[i].p.A l[i].p.xs.length l[i].p.a, .slice l[i].p.B l[i].p.ys.length l[i].p.b, .int .i64 l[i].el] 30) := ⟨_, rfl⟩
      have hb1 : Below wr.heap.size wr wA := by rw [hwA]; exact bl_al (.refl _ _) _
      have hbd : Below wr.heap.size wr wA.drew := hb1.drew
      have hS2 := hS.out _ l[i] (List.getElem_mem h1) (List.mem_cons_of_mem _ (List.getElem_mem h2)) wA.drew (a1.next hbd) (a2.next hbd)
      have hK : Bk wr.heap.size #[.int .i64 l[i].so, .bool l[i].bo, .bool l[i].p.s, .slice l[i].p.A l[i].p.xs.length l[i].p.a, .slice l[i].p.B l[i].p.ys.length l[i].p.b, .int .i64 l[i].el] 30 wA := by rw [hwA]; exact Bk.new _ _ _
      obtain ⟨z0, z1, z2, z3, z4, z5⟩ := C6.of hK
      have u2 := cell_next hb1 x2
      have u3 := cell_next hb1 x3
      have u4 := cell_next hb1 x4
      rw [hwA] at z0 z1 z2 z3 z4 z5 u2 u3 u4 hS2
      have hbdd := hide (bl_trans hbw hbd)
      rw [hwA] at hbdd
      clear a1 a2 hA hB hK hb1 hbd x0 x1 x2 x3 x4 x5 hP hQ hS hwA
      unfold rv at hS2
      generalize (a :: l)[i] = p at *
      generalize l[i] = q at *
      rw [hDD] at *
      generalize cmpQ p.p.q q.p.q = cq at *
      obtain ⟨b, hb⟩ : ∃ b, (decide (0 < cq)) = b := ⟨_, rfl⟩
      have hF2 := hF.out cq
      rw [hb] at htk hF2
      clear hb hF
      replace hS2 := hide hS2; replace htk := hide htk; replace hF2 := hide hF2
      generalize q.p.xs.length = i1 at *
      generalize q.p.ys.length = i2 at *
      generalize p.p.xs.length = j1 at *
      generalize p.p.ys.length = j2 at *
      have hlt' : (i : Int) < (n : Int) := by omega
      cases b with
      | false =>
        go_wp2_with fail
        go_region_with (first
          | (go_at_call 159; (with_reducible refine hS2.out.mono ?_); rintro e wa ⟨rfl, hb3⟩; replace hb3 := hide hb3)
          | (go_at_call 138; (with_reducible refine (hF2.out _).mono ?_); rintro e wb ⟨rfl, rfl⟩))
        all_goals
          go_wp2_with fail
          go_ret
          exact ⟨by rw [← htk.out]; rfl, bl_trans hbdd.out hb3.out⟩
      | true =>
        go_wp2_with fail
        go_region_with (first
          | (go_at_call 159; (with_reducible refine hS2.out.mono ?_); rintro e wa ⟨rfl, hb3⟩; replace hb3 := hide hb3)
          | (go_at_call 138; (with_reducible refine (hF2.out _).mono ?_); rintro e wb ⟨rfl, rfl⟩))
        all_goals
          go_wp2_with fail
          go_roundw
          case rel => exact ⟨i + 1, hlt, by go_num, bl_trans hbdd.out hb3.out, by have := htk.out; rwa [Bool.true_and] at this⟩
          case measure => simp only [intOf]; omega
    · have hin : i = n := by omega
      have e1 : ∃ z, (a :: l).drop i = [z] := by
        have h1 : i < (a :: l).length := by simp; rw [hn'.out]; omega
        refine ⟨(a :: l)[i], ?_⟩
        rw [List.drop_eq_getElem_cons h1, List.drop_eq_nil_of_le (by simp; rw [hn'.out]; omega)]
      obtain ⟨z, e1⟩ := e1
      rw [e1] at htk
      subst hin
      have hd : r = true := htk.symm
      clear htk e1 hr
      subst hd
      go_wp2_with fail
      go_ret
      exact ⟨rfl, hbw⟩
end
section
open Go.ChangeShapes Go.RowKit
theorem holds9_v (A : Option Addr) (c : Nat) (l : List Vl) (w : World) {Z : List Nat} (hl : Vs Z w A l) (fl : ∀ v ∈ l, v.Few) (nl : l.length ≤ 100000) (hc : l.length ≤ c) (hm : c ≤ maxLen) (r : Bool) (hr : noneSm l = r) : Calls Tryz.prog 107 #[.int .i64 9, .slice A l.length c] w fun e w' => e = .returned (.bool r) ∧ Below w.heap.size w w' := by
  have hC := hide (noneSame_v A c l w hl fl nl hc hm r hr)
  clear hl fl hr hm
  generalize l.length = n at *
  go_enter Tryz.func107, Tryz.ntmps107
  go_wp2_with (go_at_call 133; (with_reducible refine hC.out.mono ?_); rintro e w1 ⟨rfl, hb⟩; replace hb := hide hb)
  go_ret
  exact ⟨rfl, hb.out⟩
theorem holds17_v (A : Option Addr) (c : Nat) (a : Vl) (l : List Vl) (w : World) {Z : List Nat} (hl : Vs Z w A (a :: l)) (fl : ∀ v ∈ a :: l, v.p.Ok) (nl : l.length ≤ 100000) (hc : l.length + 1 ≤ c) (hm : c ≤ maxLen) (r : Bool) (hr : eachB (fun k => decide (k ≤ 0)) (a :: l) = r) : Calls Tryz.prog 107 #[.int .i64 17, .slice A (l.length + 1) c] w fun e w' => e = .returned (.bool r) ∧ Below w.heap.size w w' := by
  have hC := hide (each1_v A c a l w hl fl nl hc hm r hr)
  clear hl fl hr hm
  generalize l.length + 1 = n at *
  go_enter Tryz.func107, Tryz.ntmps107
  go_wp2_with (go_at_call 134; (with_reducible refine hC.out.mono ?_); rintro e w1 ⟨rfl, hb⟩; replace hb := hide hb)
  go_ret
  exact ⟨rfl, hb.out⟩
theorem holds18_v (A : Option Addr) (c : Nat) (a : Vl) (l : List Vl) (w : World) {Z : List Nat} (hl : Vs Z w A (a :: l)) (fl : ∀ v ∈ a :: l, v.p.Ok) (nl : l.length ≤ 100000) (hc : l.length + 1 ≤ c) (hm : c ≤ maxLen) (r : Bool) (hr : eachB (fun k => decide (k < 0)) (a :: l) = r) : Calls Tryz.prog 107 #[.int .i64 18, .slice A (l.length + 1) c] w fun e w' => e = .returned (.bool r) ∧ Below w.heap.size w w' := by
  have hC := hide (each2_v A c a l w hl fl nl hc hm r hr)
  clear hl fl hr hm
  generalize l.length + 1 = n at *
  go_enter Tryz.func107, Tryz.ntmps107
  go_wp2_with (go_at_call 134; (with_reducible refine hC.out.mono ?_); rintro e w1 ⟨rfl, hb⟩; replace hb := hide hb)
  go_ret
  exact ⟨rfl, hb.out⟩
theorem holds19_v (A : Option Addr) (c : Nat) (a : Vl) (l : List Vl) (w : World) {Z : List Nat} (hl : Vs Z w A (a :: l)) (fl : ∀ v ∈ a :: l, v.p.Ok) (nl : l.length ≤ 100000) (hc : l.length + 1 ≤ c) (hm : c ≤ maxLen) (r : Bool) (hr : eachB (fun k => decide (0 ≤ k)) (a :: l) = r) : Calls Tryz.prog 107 #[.int .i64 19, .slice A (l.length + 1) c] w fun e w' => e = .returned (.bool r) ∧ Below w.heap.size w w' := by
  have hC := hide (each3_v A c a l w hl fl nl hc hm r hr)
  clear hl fl hr hm
  generalize l.length + 1 = n at *
  go_enter Tryz.func107, Tryz.ntmps107
  go_wp2_with (go_at_call 134; (with_reducible refine hC.out.mono ?_); rintro e w1 ⟨rfl, hb⟩; replace hb := hide hb)
  go_ret
  exact ⟨rfl, hb.out⟩
theorem holds20_v (A : Option Addr) (c : Nat) (a : Vl) (l : List Vl) (w : World) {Z : List Nat} (hl : Vs Z w A (a :: l)) (fl : ∀ v ∈ a :: l, v.p.Ok) (nl : l.length ≤ 100000) (hc : l.length + 1 ≤ c) (hm : c ≤ maxLen) (r : Bool) (hr : eachB (fun k => decide (0 < k)) (a :: l) = r) : Calls Tryz.prog 107 #[.int .i64 20, .slice A (l.length + 1) c] w fun e w' => e = .returned (.bool r) ∧ Below w.heap.size w w' := by
  have hC := hide (each4_v A c a l w hl fl nl hc hm r hr)
  clear hl fl hr hm
  generalize l.length + 1 = n at *
  go_enter Tryz.func107, Tryz.ntmps107
  go_wp2_with (go_at_call 134; (with_reducible refine hC.out.mono ?_); rintro e w1 ⟨rfl, hb⟩; replace hb := hide hb)
  go_ret
  exact ⟨rfl, hb.out⟩
end
section
open Go.ChangeShapes Go.RowKit
def opQ (op : Int) (q r : Rat) : Rat := if op = 13 then q + r else if op = 14 then q - r else if op = 15 then q * r else q / r
def NwQ (q : Rat) (w : World) (e : Ending) (w' : World) : Prop := ∃ r : Pt, e = .returned (.tuple #[rv r, .int .i64 0]) ∧ r.q = q ∧ r.Ok ∧ r.At w' ∧ Below w.heap.size w w'
theorem RQE.nw {q : Rat} {w w' : World} {e : Ending} (h : RQE w q e w') (f : fitq q) : NwQ q w e w' := by
  obtain ⟨r, h1, h2, h3, h4, h5, h6⟩ := h.newQ f 0
  exact ⟨r, h1, h2, h4, h5, h6⟩
section
variable {p r : Pt} (hp : p.Ok) (hr : r.Ok) (w : World) (aP : p.At w) (aR : r.At w)
include hp hr aP aR
theorem addP (Z : Rat) (hZ : p.q + r.q = Z) (f : fitq Z) : Calls Tryz.prog 156 #[rv p, rv r] w (NwQ Z w) := by
  rw [hp.rv, hr.rv]
  exact (add_q p.q r.q Z hZ _ _ _ _ _ _ _ _ w (hp.sl aP).1 (hp.sl aP).2 (hr.sl aR).1 (hr.sl aR).2 hp.f hr.f f).mono fun e w' h => h.nw f
theorem subP (Z : Rat) (hZ : p.q - r.q = Z) (f : fitq Z) : Calls Tryz.prog 129 #[rv p, rv r] w (NwQ Z w) := by
  rw [hp.rv, hr.rv]
  exact (sub_q p.q r.q Z hZ _ _ _ _ _ _ _ _ w (hp.sl aP).1 (hp.sl aP).2 (hr.sl aR).1 (hr.sl aR).2 hp.f hr.f f).mono fun e w' h => h.nw f
theorem mulP (Z : Rat) (hZ : p.q * r.q = Z) (f : fitq Z) : Calls Tryz.prog 157 #[rv p, rv r] w (NwQ Z w) := by
  rw [hp.rv, hr.rv]
  exact (mul_q p.q r.q Z hZ _ _ _ _ _ _ _ _ w (hp.sl aP).1 (hp.sl aP).2 (hr.sl aR).1 (hr.sl aR).2 hp.f hr.f f).mono fun e w' h => h.nw f
theorem quoP (Z : Rat) (hZ : p.q / r.q = Z) (h0 : r.q ≠ 0) (f : fitq Z) : Calls Tryz.prog 158 #[rv p, rv r] w (NwQ Z w) := by
  rw [hp.rv, hr.rv]
  exact (quo_q p.q r.q Z hZ _ _ _ _ _ _ _ _ w (hp.sl aP).1 (hp.sl aP).2 (hr.sl aR).1 (hr.sl aR).2 hp.f hr.f h0 f).mono fun e w' h => h.nw f
end
theorem end3 {w W F : World} {g : Nat} {u v x a b c : Value} (hb : Below w.heap.size w W) (hg : w.heap.size ≤ g) (hZ : Bk g #[u, v, x] 28 W) (hn : noU u = true ∧ noU v = true ∧ noU x = true) (hF : F = ((W.setCell ⟨g, 0, none⟩ a).setCell ⟨g, 1, none⟩ b).setCell ⟨g, 2, none⟩ c) :
    Bk g #[a, b, c] 28 F ∧ Lks W F ∧ Below w.heap.size w F ∧ Off [g] W F := by
  subst hF
  obtain ⟨k1, k2⟩ := set3_end (a := a) (b := b) (c := c) hZ
  exact ⟨k1, Lks.of_bk hZ (by intro y hy; simp at hy; rcases hy with rfl | rfl | rfl; exact hn.1; exact hn.2.1; exact hn.2.2) k2, hb.trans (k2.below hb.size (by intro b hb; simp at hb; omega)), k2⟩
theorem cells3 {g : Nat} {u v x : Value} {t : TypeId} {W : World} (h : Bk g #[u, v, x] t W) : W.cell? ⟨g, 0, none⟩ = some u ∧ W.cell? ⟨g, 1, none⟩ = some v ∧ W.cell? ⟨g, 2, none⟩ = some x := ⟨h.cell rfl, h.cell rfl, h.cell rfl⟩
theorem free3 {g : Nat} {cur : Array Value} {t : TypeId} {W : World} (h : Bk g cur t W) : W.frozen? ⟨g, 0, none⟩ = false ∧ W.frozen? ⟨g, 1, none⟩ = false ∧ W.frozen? ⟨g, 2, none⟩ = false := ⟨h.free 0, h.free 1, h.free 2⟩
theorem both13_v {p r : Pt} (hp : p.Ok) (hr : r.Ok) (w : World) (aP : p.At w) (aR : r.At w) (Z : Rat) (hZ : p.q + r.q = Z) (f : fitq Z) : Calls Tryz.prog 130 #[.int .i64 13, rv p, rv r] w (NwQ Z w) := by
  have hb0 : Below w.heap.size w (((w.alloc (.cells #[.bool p.s, .slice p.A p.xs.length p.a, .slice p.B p.ys.length p.b] 28)).alloc (.cells #[.bool r.s, .slice r.A r.xs.length r.a, .slice r.B r.ys.length r.b] 28)).alloc (.cells #[.bool false, .slice none 0 0, .slice none 0 0] 28)) := bl_al (bl_al (bl_al (.refl _ _) _) _) _
  have hC := hide (addP hp hr _ (aP.next hb0) (aR.next hb0) Z hZ f)
  have X1 := (((Bk.new #[.bool p.s, .slice p.A p.xs.length p.a, .slice p.B p.ys.length p.b] 28 w).al (.cells #[.bool r.s, .slice r.A r.xs.length r.a, .slice r.B r.ys.length r.b] 28)).al (.cells #[.bool false, .slice none 0 0, .slice none 0 0] 28))
  have X2 : Bk (w.heap.size + 1) #[.bool r.s, .slice r.A r.xs.length r.a, .slice r.B r.ys.length r.b] 28 (((w.alloc (.cells #[.bool p.s, .slice p.A p.xs.length p.a, .slice p.B p.ys.length p.b] 28)).alloc (.cells #[.bool r.s, .slice r.A r.xs.length r.a, .slice r.B r.ys.length r.b] 28)).alloc (.cells #[.bool false, .slice none 0 0, .slice none 0 0] 28)) := (Bk.new1 _ _ w _).al _
  have X3 : Bk (w.heap.size + 1 + 1) #[.bool false, .slice none 0 0, .slice none 0 0] 28 (((w.alloc (.cells #[.bool p.s, .slice p.A p.xs.length p.a, .slice p.B p.ys.length p.b] 28)).alloc (.cells #[.bool r.s, .slice r.A r.xs.length r.a, .slice r.B r.ys.length r.b] 28)).alloc (.cells #[.bool false, .slice none 0 0, .slice none 0 0] 28)) := by
    have := Bk.new1 #[.bool false, .slice none 0 0, .slice none 0 0] 28 (w.alloc (.cells #[.bool p.s, .slice p.A p.xs.length p.a, .slice p.B p.ys.length p.b] 28)) (.cells #[.bool r.s, .slice r.A r.xs.length r.a, .slice r.B r.ys.length r.b] 28)
    simpa using this
  have hst : ∀ W (z : Pt), Below (((w.alloc (.cells #[.bool p.s, .slice p.A p.xs.length p.a, .slice p.B p.ys.length p.b] 28)).alloc (.cells #[.bool r.s, .slice r.A r.xs.length r.a, .slice r.B r.ys.length r.b] 28)).alloc (.cells #[.bool false, .slice none 0 0, .slice none 0 0] 28)).heap.size (((w.alloc (.cells #[.bool p.s, .slice p.A p.xs.length p.a, .slice p.B p.ys.length p.b] 28)).alloc (.cells #[.bool r.s, .slice r.A r.xs.length r.a, .slice r.B r.ys.length r.b] 28)).alloc (.cells #[.bool false, .slice none 0 0, .slice none 0 0] 28)) W → z.At W → Bk (w.heap.size + 1 + 1) #[.bool false, .slice none 0 0, .slice none 0 0] 28 W ∧ ∀ F, F = ((W.setCell ⟨w.heap.size + 1 + 1, 0, none⟩ (.bool z.s)).setCell ⟨w.heap.size + 1 + 1, 1, none⟩ (.slice z.A z.xs.length z.a)).setCell ⟨w.heap.size + 1 + 1, 2, none⟩ (.slice z.B z.ys.length z.b) → Bk (w.heap.size + 1 + 1) #[.bool z.s, .slice z.A z.xs.length z.a, .slice z.B z.ys.length z.b] 28 F ∧ z.At F ∧ Below w.heap.size w F := fun W z hb aZ => by
    refine ⟨X3.next hb, fun F hF => ?_⟩
    obtain ⟨e1, e2, e3, _⟩ := end3 (bl_trans hb0 hb) (by omega) (X3.next hb) ⟨rfl, rfl, rfl⟩ hF
    exact ⟨e1, ⟨e2 _ _ aZ.1, e2 _ _ aZ.2⟩, e3⟩
  obtain ⟨x0, x1, x2⟩ := cells3 X1
  obtain ⟨y0, y1, y2⟩ := cells3 X2
  replace hst := hide hst
  clear X1 X2 X3 hb0 hp hr aP aR hZ f
  unfold NwQ at *
  unfold rv at *
  generalize p.xs.length = i1 at *
  generalize p.ys.length = i2 at *
  generalize r.xs.length = j1 at *
  generalize r.ys.length = j2 at *
  go_enter Tryz.func130, Tryz.ntmps130
  go_wp2_with (go_at_call 156; (with_reducible refine hC.out.mono ?_); rintro e w1 ⟨z, rfl, h1, h2, h3, hb⟩; obtain ⟨hz, he⟩ := hst.out w1 z hb h3; obtain ⟨z0, z1, z2⟩ := cells3 hz; obtain ⟨f0, f1, f2⟩ := free3 hz; have hk := hide (And.intro h1 h2); clear hz h1 h2 h3 hb; replace he := hide he; generalize hi1 : z.xs.length = k1 at *; generalize hi2 : z.ys.length = k2 at *; replace hi1 := hide hi1; replace hi2 := hide hi2)
  obtain ⟨F, hF⟩ : ∃ F, F = ((w1.setCell ⟨w.heap.size + 1 + 1, 0, none⟩ (.bool z.s)).setCell ⟨w.heap.size + 1 + 1, 1, none⟩ (.slice z.A k1 z.a)).setCell ⟨w.heap.size + 1 + 1, 2, none⟩ (.slice z.B k2 z.b) := ⟨_, rfl⟩
  clear z0 z1 z2
  obtain ⟨hB, e1, e2⟩ := he.out F hF
  obtain ⟨z0, z1, z2⟩ := cells3 hB
  rw [← hF]
  exact bodyPost_ret (v := .tuple #[.agg #[.bool z.s, .slice z.A k1 z.a, .slice z.B k2 z.b], .int .i64 0]) (by simp [results, Tryz.results130, go_sem, z0, z1, z2]) rfl ⟨z, by rw [hi1.out, hi2.out], hk.out.1, hk.out.2, e1, e2⟩
theorem both14_v {p r : Pt} (hp : p.Ok) (hr : r.Ok) (w : World) (aP : p.At w) (aR : r.At w) (Z : Rat) (hZ : p.q - r.q = Z) (f : fitq Z) : Calls Tryz.prog 130 #[.int .i64 14, rv p, rv r] w (NwQ Z w) := by
  have hb0 : Below w.heap.size w (((w.alloc (.cells #[.bool p.s, .slice p.A p.xs.length p.a, .slice p.B p.ys.length p.b] 28)).alloc (.cells #[.bool r.s, .slice r.A r.xs.length r.a, .slice r.B r.ys.length r.b] 28)).alloc (.cells #[.bool false, .slice none 0 0, .slice none 0 0] 28)) := bl_al (bl_al (bl_al (.refl _ _) _) _) _
  have hC := hide (subP hp hr _ (aP.next hb0) (aR.next hb0) Z hZ f)
  have X1 := (((Bk.new #[.bool p.s, .slice p.A p.xs.length p.a, .slice p.B p.ys.length p.b] 28 w).al (.cells #[.bool r.s, .slice r.A r.xs.length r.a, .slice r.B r.ys.length r.b] 28)).al (.cells #[.bool false, .slice none 0 0, .slice none 0 0] 28))
  have X2 : Bk (w.heap.size + 1) #[.bool r.s, .slice r.A r.xs.length r.a, .slice r.B r.ys.length r.b] 28 (((w.alloc (.cells #[.bool p.s, .slice p.A p.xs.length p.a, .slice p.B p.ys.length p.b] 28)).alloc (.cells #[.bool r.s, .slice r.A r.xs.length r.a, .slice r.B r.ys.length r.b] 28)).alloc (.cells #[.bool false, .slice none 0 0, .slice none 0 0] 28)) := (Bk.new1 _ _ w _).al _
  have X3 : Bk (w.heap.size + 1 + 1) #[.bool false, .slice none 0 0, .slice none 0 0] 28 (((w.alloc (.cells #[.bool p.s, .slice p.A p.xs.length p.a, .slice p.B p.ys.length p.b] 28)).alloc (.cells #[.bool r.s, .slice r.A r.xs.length r.a, .slice r.B r.ys.length r.b] 28)).alloc (.cells #[.bool false, .slice none 0 0, .slice none 0 0] 28)) := by
    have := Bk.new1 #[.bool false, .slice none 0 0, .slice none 0 0] 28 (w.alloc (.cells #[.bool p.s, .slice p.A p.xs.length p.a, .slice p.B p.ys.length p.b] 28)) (.cells #[.bool r.s, .slice r.A r.xs.length r.a, .slice r.B r.ys.length r.b] 28)
    simpa using this
  have hst : ∀ W (z : Pt), Below (((w.alloc (.cells #[.bool p.s, .slice p.A p.xs.length p.a, .slice p.B p.ys.length p.b] 28)).alloc (.cells #[.bool r.s, .slice r.A r.xs.length r.a, .slice r.B r.ys.length r.b] 28)).alloc (.cells #[.bool false, .slice none 0 0, .slice none 0 0] 28)).heap.size (((w.alloc (.cells #[.bool p.s, .slice p.A p.xs.length p.a, .slice p.B p.ys.length p.b] 28)).alloc (.cells #[.bool r.s, .slice r.A r.xs.length r.a, .slice r.B r.ys.length r.b] 28)).alloc (.cells #[.bool false, .slice none 0 0, .slice none 0 0] 28)) W → z.At W → Bk (w.heap.size + 1 + 1) #[.bool false, .slice none 0 0, .slice none 0 0] 28 W ∧ ∀ F, F = ((W.setCell ⟨w.heap.size + 1 + 1, 0, none⟩ (.bool z.s)).setCell ⟨w.heap.size + 1 + 1, 1, none⟩ (.slice z.A z.xs.length z.a)).setCell ⟨w.heap.size + 1 + 1, 2, none⟩ (.slice z.B z.ys.length z.b) → Bk (w.heap.size + 1 + 1) #[.bool z.s, .slice z.A z.xs.length z.a, .slice z.B z.ys.length z.b] 28 F ∧ z.At F ∧ Below w.heap.size w F := fun W z hb aZ => by
    refine ⟨X3.next hb, fun F hF => ?_⟩
    obtain ⟨e1, e2, e3, _⟩ := end3 (bl_trans hb0 hb) (by omega) (X3.next hb) ⟨rfl, rfl, rfl⟩ hF
    exact ⟨e1, ⟨e2 _ _ aZ.1, e2 _ _ aZ.2⟩, e3⟩
  obtain ⟨x0, x1, x2⟩ := cells3 X1
  obtain ⟨y0, y1, y2⟩ := cells3 X2
  replace hst := hide hst
  clear X1 X2 X3 hb0 hp hr aP aR hZ f
  unfold NwQ at *
  unfold rv at *
  generalize p.xs.length = i1 at *
  generalize p.ys.length = i2 at *
  generalize r.xs.length = j1 at *
  generalize r.ys.length = j2 at *
  go_enter Tryz.func130, Tryz.ntmps130
  go_wp2_with (go_at_call 129; (with_reducible refine hC.out.mono ?_); rintro e w1 ⟨z, rfl, h1, h2, h3, hb⟩; obtain ⟨hz, he⟩ := hst.out w1 z hb h3; obtain ⟨z0, z1, z2⟩ := cells3 hz; obtain ⟨f0, f1, f2⟩ := free3 hz; have hk := hide (And.intro h1 h2); clear hz h1 h2 h3 hb; replace he := hide he; generalize hi1 : z.xs.length = k1 at *; generalize hi2 : z.ys.length = k2 at *; replace hi1 := hide hi1; replace hi2 := hide hi2)
  obtain ⟨F, hF⟩ : ∃ F, F = ((w1.setCell ⟨w.heap.size + 1 + 1, 0, none⟩ (.bool z.s)).setCell ⟨w.heap.size + 1 + 1, 1, none⟩ (.slice z.A k1 z.a)).setCell ⟨w.heap.size + 1 + 1, 2, none⟩ (.slice z.B k2 z.b) := ⟨_, rfl⟩
  clear z0 z1 z2
  obtain ⟨hB, e1, e2⟩ := he.out F hF
  obtain ⟨z0, z1, z2⟩ := cells3 hB
  rw [← hF]
  exact bodyPost_ret (v := .tuple #[.agg #[.bool z.s, .slice z.A k1 z.a, .slice z.B k2 z.b], .int .i64 0]) (by simp [results, Tryz.results130, go_sem, z0, z1, z2]) rfl ⟨z, by rw [hi1.out, hi2.out], hk.out.1, hk.out.2, e1, e2⟩
theorem both15_v {p r : Pt} (hp : p.Ok) (hr : r.Ok) (w : World) (aP : p.At w) (aR : r.At w) (Z : Rat) (hZ : p.q * r.q = Z) (f : fitq Z) : Calls Tryz.prog 130 #[.int .i64 15, rv p, rv r] w (NwQ Z w) := by
  have hb0 : Below w.heap.size w (((w.alloc (.cells #[.bool p.s, .slice p.A p.xs.length p.a, .slice p.B p.ys.length p.b] 28)).alloc (.cells #[.bool r.s, .slice r.A r.xs.length r.a, .slice r.B r.ys.length r.b] 28)).alloc (.cells #[.bool false, .slice none 0 0, .slice none 0 0] 28)) := bl_al (bl_al (bl_al (.refl _ _) _) _) _
  have hC := hide (mulP hp hr _ (aP.next hb0) (aR.next hb0) Z hZ f)
  have X1 := (((Bk.new #[.bool p.s, .slice p.A p.xs.length p.a, .slice p.B p.ys.length p.b] 28 w).al (.cells #[.bool r.s, .slice r.A r.xs.length r.a, .slice r.B r.ys.length r.b] 28)).al (.cells #[.bool false, .slice none 0 0, .slice none 0 0] 28))
  have X2 : Bk (w.heap.size + 1) #[.bool r.s, .slice r.A r.xs.length r.a, .slice r.B r.ys.length r.b] 28 (((w.alloc (.cells #[.bool p.s, .slice p.A p.xs.length p.a, .slice p.B p.ys.length p.b] 28)).alloc (.cells #[.bool r.s, .slice r.A r.xs.length r.a, .slice r.B r.ys.length r.b] 28)).alloc (.cells #[.bool false, .slice none 0 0, .slice none 0 0] 28)) := (Bk.new1 _ _ w _).al _
  have X3 : Bk (w.heap.size + 1 + 1) #[.bool false, .slice none 0 0, .slice none 0 0] 28 (((w.alloc (.cells #[.bool p.s, .slice p.A p.xs.length p.a, .slice p.B p.ys.length p.b] 28)).alloc (.cells #[.bool r.s, .slice r.A r.xs.length r.a, .slice r.B r.ys.length r.b] 28)).alloc (.cells #[.bool false, .slice none 0 0, .slice none 0 0] 28)) := by
    have := Bk.new1 #[.bool false, .slice none 0 0, .slice none 0 0] 28 (w.alloc (.cells #[.bool p.s, .slice p.A p.xs.length p.a, .slice p.B p.ys.length p.b] 28)) (.cells #[.bool r.s, .slice r.A r.xs.length r.a, .slice r.B r.ys.length r.b] 28)
    simpa using this
  have hst : ∀ W (z : Pt), Below (((w.alloc (.cells #[.bool p.s, .slice p.A p.xs.length p.a, .slice p.B p.ys.length p.b] 28)).alloc (.cells #[.bool r.s, .slice r.A r.xs.length r.a, .slice r.B r.ys.length r.b] 28)).alloc (.cells #[.bool false, .slice none 0 0, .slice none 0 0] 28)).heap.size (((w.alloc (.cells #[.bool p.s, .slice p.A p.xs.length p.a, .slice p.B p.ys.length p.b] 28)).alloc (.cells #[.bool r.s, .slice r.A r.xs.length r.a, .slice r.B r.ys.length r.b] 28)).alloc (.cells #[.bool false, .slice none 0 0, .slice none 0 0] 28)) W → z.At W → Bk (w.heap.size + 1 + 1) #[.bool false, .slice none 0 0, .slice none 0 0] 28 W ∧ ∀ F, F = ((W.setCell ⟨w.heap.size + 1 + 1, 0, none⟩ (.bool z.s)).setCell ⟨w.heap.size + 1 + 1, 1, none⟩ (.slice z.A z.xs.length z.a)).setCell ⟨w.heap.size + 1 + 1, 2, none⟩ (.slice z.B z.ys.length z.b) → Bk (w.heap.size + 1 + 1) #[.bool z.s, .slice z.A z.xs.length z.a, .slice z.B z.ys.length z.b] 28 F ∧ z.At F ∧ Below w.heap.size w F := fun W z hb aZ => by
    refine ⟨X3.next hb, fun F hF => ?_⟩
    obtain ⟨e1, e2, e3, _⟩ := end3 (bl_trans hb0 hb) (by omega) (X3.next hb) ⟨rfl, rfl, rfl⟩ hF
    exact ⟨e1, ⟨e2 _ _ aZ.1, e2 _ _ aZ.2⟩, e3⟩
  obtain ⟨x0, x1, x2⟩ := cells3 X1
  obtain ⟨y0, y1, y2⟩ := cells3 X2
  replace hst := hide hst
  clear X1 X2 X3 hb0 hp hr aP aR hZ f
  unfold NwQ at *
  unfold rv at *
  generalize p.xs.length = i1 at *
  generalize p.ys.length = i2 at *
  generalize r.xs.length = j1 at *
  generalize r.ys.length = j2 at *
  go_enter Tryz.func130, Tryz.ntmps130
  go_wp2_with (go_at_call 157; (with_reducible refine hC.out.mono ?_); rintro e w1 ⟨z, rfl, h1, h2, h3, hb⟩; obtain ⟨hz, he⟩ := hst.out w1 z hb h3; obtain ⟨z0, z1, z2⟩ := cells3 hz; obtain ⟨f0, f1, f2⟩ := free3 hz; have hk := hide (And.intro h1 h2); clear hz h1 h2 h3 hb; replace he := hide he; generalize hi1 : z.xs.length = k1 at *; generalize hi2 : z.ys.length = k2 at *; replace hi1 := hide hi1; replace hi2 := hide hi2)
  obtain ⟨F, hF⟩ : ∃ F, F = ((w1.setCell ⟨w.heap.size + 1 + 1, 0, none⟩ (.bool z.s)).setCell ⟨w.heap.size + 1 + 1, 1, none⟩ (.slice z.A k1 z.a)).setCell ⟨w.heap.size + 1 + 1, 2, none⟩ (.slice z.B k2 z.b) := ⟨_, rfl⟩
  clear z0 z1 z2
  obtain ⟨hB, e1, e2⟩ := he.out F hF
  obtain ⟨z0, z1, z2⟩ := cells3 hB
  rw [← hF]
  exact bodyPost_ret (v := .tuple #[.agg #[.bool z.s, .slice z.A k1 z.a, .slice z.B k2 z.b], .int .i64 0]) (by simp [results, Tryz.results130, go_sem, z0, z1, z2]) rfl ⟨z, by rw [hi1.out, hi2.out], hk.out.1, hk.out.2, e1, e2⟩
theorem both16_v {p r : Pt} (hp : p.Ok) (hr : r.Ok) (w : World) (aP : p.At w) (aR : r.At w) (Z : Rat) (hZ : p.q / r.q = Z) (h0 : r.q ≠ 0) (f : fitq Z) : Calls Tryz.prog 130 #[.int .i64 16, rv p, rv r] w (NwQ Z w) := by
  have hb0 : Below w.heap.size w (((w.alloc (.cells #[.bool p.s, .slice p.A p.xs.length p.a, .slice p.B p.ys.length p.b] 28)).alloc (.cells #[.bool r.s, .slice r.A r.xs.length r.a, .slice r.B r.ys.length r.b] 28)).alloc (.cells #[.bool false, .slice none 0 0, .slice none 0 0] 28)) := bl_al (bl_al (bl_al (.refl _ _) _) _) _
  have hC := hide (quoP hp hr _ (aP.next hb0) (aR.next hb0) Z hZ h0 f)
  have X1 := (((Bk.new #[.bool p.s, .slice p.A p.xs.length p.a, .slice p.B p.ys.length p.b] 28 w).al (.cells #[.bool r.s, .slice r.A r.xs.length r.a, .slice r.B r.ys.length r.b] 28)).al (.cells #[.bool false, .slice none 0 0, .slice none 0 0] 28))
  have X2 : Bk (w.heap.size + 1) #[.bool r.s, .slice r.A r.xs.length r.a, .slice r.B r.ys.length r.b] 28 (((w.alloc (.cells #[.bool p.s, .slice p.A p.xs.length p.a, .slice p.B p.ys.length p.b] 28)).alloc (.cells #[.bool r.s, .slice r.A r.xs.length r.a, .slice r.B r.ys.length r.b] 28)).alloc (.cells #[.bool false, .slice none 0 0, .slice none 0 0] 28)) := (Bk.new1 _ _ w _).al _
  have X3 : Bk (w.heap.size + 1 + 1) #[.bool false, .slice none 0 0, .slice none 0 0] 28 (((w.alloc (.cells #[.bool p.s, .slice p.A p.xs.length p.a, .slice p.B p.ys.length p.b] 28)).alloc (.cells #[.bool r.s, .slice r.A r.xs.length r.a, .slice r.B r.ys.length r.b] 28)).alloc (.cells #[.bool false, .slice none 0 0, .slice none 0 0] 28)) := by
    have := Bk.new1 #[.bool false, .slice none 0 0, .slice none 0 0] 28 (w.alloc (.cells #[.bool p.s, .slice p.A p.xs.length p.a, .slice p.B p.ys.length p.b] 28)) (.cells #[.bool r.s, .slice r.A r.xs.length r.a, .slice r.B r.ys.length r.b] 28)
    simpa using this
  have hst : ∀ W (z : Pt), Below (((w.alloc (.cells #[.bool p.s, .slice p.A p.xs.length p.a, .slice p.B p.ys.length p.b] 28)).alloc (.cells #[.bool r.s, .slice r.A r.xs.length r.a, .slice r.B r.ys.length r.b] 28)).alloc (.cells #[.bool false, .slice none 0 0, .slice none 0 0] 28)).heap.size (((w.alloc (.cells #[.bool p.s, .slice p.A p.xs.length p.a, .slice p.B p.ys.length p.b] 28)).alloc (.cells #[.bool r.s, .slice r.A r.xs.length r.a, .slice r.B r.ys.length r.b] 28)).alloc (.cells #[.bool false, .slice none 0 0, .slice none 0 0] 28)) W → z.At W → Bk (w.heap.size + 1 + 1) #[.bool false, .slice none 0 0, .slice none 0 0] 28 W ∧ ∀ F, F = ((W.setCell ⟨w.heap.size + 1 + 1, 0, none⟩ (.bool z.s)).setCell ⟨w.heap.size + 1 + 1, 1, none⟩ (.slice z.A z.xs.length z.a)).setCell ⟨w.heap.size + 1 + 1, 2, none⟩ (.slice z.B z.ys.length z.b) → Bk (w.heap.size + 1 + 1) #[.bool z.s, .slice z.A z.xs.length z.a, .slice z.B z.ys.length z.b] 28 F ∧ z.At F ∧ Below w.heap.size w F := fun W z hb aZ => by
    refine ⟨X3.next hb, fun F hF => ?_⟩
    obtain ⟨e1, e2, e3, _⟩ := end3 (bl_trans hb0 hb) (by omega) (X3.next hb) ⟨rfl, rfl, rfl⟩ hF
    exact ⟨e1, ⟨e2 _ _ aZ.1, e2 _ _ aZ.2⟩, e3⟩
  obtain ⟨x0, x1, x2⟩ := cells3 X1
  obtain ⟨y0, y1, y2⟩ := cells3 X2
  replace hst := hide hst
  clear X1 X2 X3 hb0 hp hr aP aR hZ f
  unfold NwQ at *
  unfold rv at *
  generalize p.xs.length = i1 at *
  generalize p.ys.length = i2 at *
  generalize r.xs.length = j1 at *
  generalize r.ys.length = j2 at *
  go_enter Tryz.func130, Tryz.ntmps130
  go_wp2_with (go_at_call 158; (with_reducible refine hC.out.mono ?_); rintro e w1 ⟨z, rfl, h1, h2, h3, hb⟩; obtain ⟨hz, he⟩ := hst.out w1 z hb h3; obtain ⟨z0, z1, z2⟩ := cells3 hz; obtain ⟨f0, f1, f2⟩ := free3 hz; have hk := hide (And.intro h1 h2); clear hz h1 h2 h3 hb; replace he := hide he; generalize hi1 : z.xs.length = k1 at *; generalize hi2 : z.ys.length = k2 at *; replace hi1 := hide hi1; replace hi2 := hide hi2)
  obtain ⟨F, hF⟩ : ∃ F, F = ((w1.setCell ⟨w.heap.size + 1 + 1, 0, none⟩ (.bool z.s)).setCell ⟨w.heap.size + 1 + 1, 1, none⟩ (.slice z.A k1 z.a)).setCell ⟨w.heap.size + 1 + 1, 2, none⟩ (.slice z.B k2 z.b) := ⟨_, rfl⟩
  clear z0 z1 z2
  obtain ⟨hB, e1, e2⟩ := he.out F hF
  obtain ⟨z0, z1, z2⟩ := cells3 hB
  rw [← hF]
  exact bodyPost_ret (v := .tuple #[.agg #[.bool z.s, .slice z.A k1 z.a, .slice z.B k2 z.b], .int .i64 0]) (by simp [results, Tryz.results130, go_sem, z0, z1, z2]) rfl ⟨z, by rw [hi1.out, hi2.out], hk.out.1, hk.out.2, e1, e2⟩
end
end Nt
end Go.Proofs.YthabfakbdfaciaaGreat
