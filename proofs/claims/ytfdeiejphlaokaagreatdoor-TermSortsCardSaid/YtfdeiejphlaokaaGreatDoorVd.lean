
/-
  TermSorts: the constants, and what the law makes of them.
  TermSorts: the law.
  TermSorts: the law's walk.
-/
import Derived.Test.YtfdeiejphlaokaaGreatDoorUx

import Derived.Deep.DeepCutAuto

import Derived.Deep.CutBlock

namespace Go.Proofs.YtfdeiejphlaokaaGreatDoor

open Go.ChangeShapes Go.RowKit

namespace Nt
set_option maxRecDepth 100000
set_option linter.unusedSimpArgs false
set_option linter.unusedVariables false

def knm (k : Int) : ByteArray := if k = 0 then ⟨#[112]⟩ else if k = 1 then ⟨#[120]⟩ else ⟨#[97]⟩
def cNd (k : Int) : Nd := ⟨12, knm k, false, [], [], [], k, 0⟩
def Cn (ns : List Nd) : Prop := ∀ n ∈ ns, ∃ k : Int, (k = 0 ∨ k = 1 ∨ k = 2) ∧ n = cNd k
theorem soAt_app {ns ms : List Nd} {a : Int} (h0 : 0 ≤ a) (h1 : a < (ns.length : Int)) : soAt (ns ++ ms) a = soAt ns a := by
  unfold soAt
  rw [List.getElem?_append_left (by omega)]
theorem cNd_ne {k k' : Int} (hk : k = 0 ∨ k = 1 ∨ k = 2) (hk' : k' = 0 ∨ k' = 1 ∨ k' = 2) (h : k ≠ k') : kvl (cNd k) ≠ kvl (cNd k') := by
  refine kv_name ?_
  rcases hk with rfl | rfl | rfl <;> rcases hk' with rfl | rfl | rfl <;> first | exact absurd rfl h | decide

section

variable {X : List Nat} {B : Nat} {w W : World} {q N : Nat} {ns : List Nd}
/-- A constant of sort k, made anew or there already. -/
theorem con_any (h : Tt X B w W q N so0 (fuN 10) dcl ns) (hc : Cn ns) (hN : N ≤ 1000) (hl : ns.length ≤ N) (k : Int) (hk : k = 0 ∨ k = 1 ∨ k = 2) :
    Calls Tryz.prog 14 #[.pointer (some ⟨q, 0, none⟩), .string (knm k)] W fun e w' => ∃ (j : Int) (ns' : List Nd), e = .returned (.int .i64 j) ∧ Tt X B w w' q (N + 1) so0 (fuN 10) dcl ns' ∧ Same X W w' ∧ Cn ns' ∧ ns'.length ≤ N + 1 ∧ (0 ≤ j ∧ j < (ns'.length : Int)) ∧ soAt ns' j = k ∧ (ns.length ≤ ns'.length) ∧ ∀ a, 0 ≤ a → a < (ns.length : Int) → soAt ns' a = soAt ns a := by
  obtain ⟨i, hi, e1, e2, e3⟩ : ∃ (i : Nat) (hi : i < dcl.length), dcl[i].nm = knm k ∧ dcl[i].ar = [] ∧ dcl[i].rs = k := by
    rcases hk with rfl | rfl | rfl
    · exact ⟨3, by decide, rfl, rfl, rfl⟩
    · exact ⟨0, by decide, rfl, rfl, rfl⟩
    · exact ⟨5, by decide, rfl, rfl, rfl⟩
  have hsz : (knm k).size ≤ 200 := by rcases hk with rfl | rfl | rfl <;> decide
  by_cases hold : cNd k ∈ ns
  · obtain ⟨j, hj, he⟩ := List.getElem_of_mem hold
    refine (con_old h (by omega) (knm k) hsz i hi e1 e2 (by rw [e3]; omega) j hj (by rw [he, e3]; rfl)).mono fun e w' ⟨h1, h2⟩ => ⟨j, ns, h1, (h.next h2).mono (by omega), Same.of_below h2 (fun b hb => h.lt hb), hc, by omega, ⟨by omega, by omega⟩, ?_, Nat.le_refl _, fun _ _ _ => rfl⟩
    rw [soAt_get hj, he]
    rfl
  · refine (con_new h (by omega) (knm k) hsz i hi e1 e2 (by rw [e3]; omega) (by omega) (fun m hm => ?_)).mono fun e w' ⟨h1, h2, h3⟩ => ⟨ns.length, ns ++ [cNd k], h1, ?_, h3, ?_, by simp; omega, ⟨by omega, by simp; omega⟩, ?_, by simp, fun a h0 h1 => soAt_app h0 h1⟩
    · obtain ⟨k', hk', rfl⟩ := hc m hm
      rw [e3]
      exact cNd_ne hk' hk (fun e => hold (e ▸ hm))
    · rw [e3] at h2
      exact h2
    · intro n hn
      rcases List.mem_append.1 hn with hn | hn
      · exact hc n hn
      · simp at hn
        exact ⟨k, hk, hn⟩
    · rw [soAt_get (by simp)]
      simp [cNd]

theorem allB_map {ns : List Nd} {s : Int} {ar ks : List Int} (h : ar.map (soAt ns) = ks) : allB ns s ar = ks.all (· == s) := by
  rw [← h]
  unfold allB
  rw [List.all_map]
  rfl
theorem cn_wo (hc : Cn ns) (a : Int) : woAt ns a = 0 := by
  unfold woAt
  cases h : ns[a.toNat]? with
  | none => rfl
  | some n =>
    obtain ⟨k, _, rfl⟩ := hc n (List.mem_of_getElem? h)
    rfl
theorem cn_so (hc : Cn ns) {a : Int} (h0 : 0 ≤ a) (h1 : a < (ns.length : Int)) : soAt ns a = 0 ∨ soAt ns a = 1 ∨ soAt ns a = 2 := by
  obtain ⟨i, rfl⟩ : ∃ i : Nat, a = (i : Int) := ⟨a.toNat, by omega⟩
  have hi : i < ns.length := by omega
  rw [soAt_get hi]
  obtain ⟨k, hk, e⟩ := hc _ (List.getElem_mem hi)
  rw [e]
  exact hk
/-- An operator over constants. -/
theorem make_any (h : Tt X B w W q N so0 (fuN 10) dcl ns) (hc : Cn ns) (hN : N ≤ 1000) (hl : ns.length ≤ N) (op : Int) (h1 : 1 ≤ op) (h2 : op ≤ 20) (h11 : op ≠ 11) (h12 : op ≠ 12) (h15 : op ≠ 15) (h16 : op ≠ 16) (C : Option Addr) (ar : List Int) (e : Nat) (hC : Rx X B W C (zs ar)) (n5 : ar.length ≤ 5) (hcap : ar.length ≤ e) (he : e ≤ maxLen) (hin : ∀ a ∈ ar, 0 ≤ a ∧ a < (ns.length : Int)) :
    Calls Tryz.prog 16 (zArgs q op C ar.length e) W fun ee w' => if srtB ns op ar = true then ee = .returned (.tuple #[.int .i64 (ns.length : Int), .int .i64 0]) ∧ (∃ n, n.so = srtS ns op ar ∧ Tt X B w w' q (N + 1) so0 (fuN 10) dcl (ns ++ [n])) else ee = .returned (.tuple #[.int .i64 0, .int .i64 3]) ∧ Below B w w' := by
  by_cases hs : srtB ns op ar = true
  · simp only [if_pos hs]
    have hso : 0 ≤ srtS ns op ar ∧ srtS ns op ar ≤ 100000000 := by
      unfold srtS
      split
      · unfold iteS
        split
        · have hm : ar.getD 1 0 ∈ ar := by rw [List.getD_eq_getElem?_getD, List.getElem?_eq_getElem (by omega)]; exact List.getElem_mem (by omega)
          have := hin _ hm
          have := cn_so hc this.1 this.2
          omega
        · decide
      · split <;> decide
    have hwo : wOf ns op [] ar = 0 := by
      unfold wOf
      rw [if_neg (by omega)]
      split
      · exact cn_wo hc _
      · rfl
    refine (mk_op_new h (by omega) op h1 h2 h11 h12 C ar e hC (by omega) hcap he hin hs (by omega) (fun e => absurd e h16) hso (by rw [hwo]; decide) (fun m hm => ?_)).mono fun ee w' ⟨k1, k2, _⟩ => ⟨k1, _, rfl, k2⟩
    obtain ⟨k, _, rfl⟩ := hc m hm
    exact kv_ne (fun e => h12 e.symm)
  · simp only [if_neg hs]
    exact (mk_op_sort h (by omega) op h1 h2 h11 h12 C ar e hC.ir (by omega) hcap he hin (by simpa using hs)).mono fun ee w' ⟨k1, k2⟩ => ⟨k1, h.below.trans (k2.mono h.base)⟩
end

/-- At the loop's head: the args so far, of the sorts ks; gn holds the three names, gc the three counts. -/
structure Hv (B : Nat) (w W : World) (q N gn gc : Nat) (v : Value) (l ks : List Int) (c0 c1 c2 : Nat) (ns : List Nd) : Prop where
  tt : Tt (gc :: gn :: v.ownBlock.toList) B w W q N so0 (fuN 10) dcl ns
  cs : Cn ns
  le : ns.length ≤ N
  row : Zw B W v l
  nm : Bk gn #[.string ⟨#[112]⟩, .string ⟨#[120]⟩, .string ⟨#[97]⟩] 9 W
  cn : Bk gc #[.int .i64 (c0 : Int), .int .i64 (c1 : Int), .int .i64 (c2 : Int)] 48 W
  so : l.map (soAt ns) = ks
  inn : ∀ a ∈ l, 0 ≤ a ∧ a < (ns.length : Int)
  ne : ∀ b, v.ownBlock = some b → b ≠ gn ∧ b ≠ gc ∧ B ≤ b
  gg : gn ≠ gc ∧ B ≤ gc
section

variable {B : Nat} {w W : World} {q N gn gc : Nat} {v : Value} {l ks : List Int} {c0 c1 c2 : Nat} {ns : List Nd}
theorem Hv.app (h : Hv B w W q N gn gc v l ks c0 c1 c2 ns) (hN : N ≤ 900) (k : Int) (hk : k = 0 ∨ k = 1 ∨ k = 2) :
    Calls Tryz.prog 14 #[.pointer (some ⟨q, 0, none⟩), .string (knm k)] W fun e w' => ∃ (j : Int) (ns' : List Nd), e = .returned (.int .i64 j) ∧ Hv B w w' q (N + 1) gn gc v l ks c0 c1 c2 ns' ∧ (0 ≤ j ∧ j < (ns'.length : Int)) ∧ soAt ns' j = k := by
  refine (con_any h.tt h.cs (by omega) h.le k hk).mono fun e w' ⟨j, ns', he, h1, h2, h3, h4, h5, h6, h7, h8⟩ => ⟨j, ns', he, ⟨h1, h3, h4, Same.row h.row (h2.less (fun b hb => by simp [hb])), h2.bk h.nm (by simp), h2.bk h.cn (by simp), ?_, fun a ha => ?_, h.ne, h.gg⟩, h5, h6⟩
  · rw [← h.so]
    exact List.map_congr_left fun a ha => h8 a (h.inn a ha).1 (h.inn a ha).2
  · have := h.inn a ha
    omega
theorem Hv.push (h : Hv B w W q N gn gc v l ks c0 c1 c2 ns) (j k : Int) (hj : 0 ≤ j ∧ j < (ns.length : Int)) (hs : soAt ns j = k) (hl : l.length ≤ 1000) :
    ∃ A' c' W', (∀ ty, (Builtin.append_ #[22, 22] ty #[v, .slice (some ⟨W.heap.size, 0, none⟩) 1 1]).run Tryz.prog (W.alloc (.cells #[.int .i64 j] 3)) = .ok (.slice A' (l.length + 1) c') W') ∧ Hv B w W' q N gn gc (.slice A' (l.length + 1) c') (l ++ [j]) (ks ++ [k]) c0 c1 c2 ns := by
  obtain ⟨A', c', W', hr, k1, k2, k3, k4⟩ := h.row.push h.tt.base j (by omega)
  have hn : gn ∉ v.ownBlock.toList := fun hm => by rw [Option.mem_toList] at hm; exact (h.ne gn hm).1 rfl
  have hc : gc ∉ v.ownBlock.toList := fun hm => by rw [Option.mem_toList] at hm; exact (h.ne gc hm).2.1 rfl
  have hnl := h.nm.lt
  have hcl := h.cn.lt
  refine ⟨A', c', W', hr, h.tt.offTurn k3 (fun b hb => ⟨by simp [hb], (h.ne b (by rwa [Option.mem_toList] at hb)).2.2⟩) (fun b hb => ?_), h.cs, h.le, k1, h.nm.off k3 hn, h.cn.off k3 hc, ?_, fun a ha => ?_, fun b hb => ?_, h.gg⟩
  · simp only [List.mem_cons] at hb
    rcases hb with rfl | rfl | hb
    · exact ⟨.inl (by simp), Nat.lt_of_lt_of_le hcl k3.size⟩
    · exact ⟨.inl (by simp), Nat.lt_of_lt_of_le hnl k3.size⟩
    · rw [Option.mem_toList] at hb
      exact ⟨(k4 b hb).imp (fun h => by simp [h]) id, row_lt k1 hb⟩
  · rw [List.map_append, h.so, ← hs]
    rfl
  · rcases List.mem_append.1 ha with ha | ha
    · exact h.inn a ha
    · simp at ha
      subst ha
      exact hj
  · rcases k4 b hb with hx | hx
    · exact h.ne b hx
    · exact ⟨by omega, by omega, Nat.le_trans h.tt.base hx⟩
theorem Hv.rx {A : Option Addr} {c : Nat} (h : Hv B w W q N gn gc (.slice A l.length c) l ks c0 c1 c2 ns) :
    Rx (gc :: gn :: (Value.slice A l.length c).ownBlock.toList) B W A (zs l) ∧ l.length ≤ c ∧ c ≤ maxLen := by
  rcases h.row.2 with ⟨e, h0⟩ | ⟨g, cap, cu, e, h2, h3, h4, h5, _⟩
  · have hl : l = [] := List.eq_nil_of_length_eq_zero h0
    subst hl
    cases e
    exact ⟨.inl rfl, Nat.le_refl _, Nat.zero_le _⟩
  · cases e
    refine ⟨.inr ⟨g, 0, rfl, .inl (by simp [Value.ownBlock]), (Array.getElem?_eq_some_iff.1 h3).1, fun j v hj => ?_⟩, h4, h5⟩
    have := h.row.cells (g := g) rfl j v hj
    rwa [Addr.add_lit] at this
end

end Nt

end Go.Proofs.YtfdeiejphlaokaaGreatDoor

namespace Go.Proofs.YtfdeiejphlaokaaGreatDoor

open Go.ChangeShapes Go.RowKit

namespace Nt
set_option maxRecDepth 100000
set_option linter.unusedSimpArgs false
set_option linter.unusedVariables false

theorem take_next3 {l : List Int} {i : Nat} (h : i < l.length) : l.take (i + 1) = l.take i ++ [l.getD i 0] := by
  rw [List.take_add_one, List.getElem?_eq_getElem h]
  simp [List.getD, List.getElem?_eq_getElem h]
/-- How many of the sorts are k. -/
def kcN (k : Int) (l : List Int) : Nat := (l.filter (· == k)).length
theorem kcN_push (k : Int) (l : List Int) (x : Int) : kcN k (l ++ [x]) = kcN k l + (if x = k then 1 else 0) := by
  unfold kcN
  rw [List.filter_append, List.length_append]
  congr 1
  by_cases h : x = k
  · rw [if_pos h, List.filter_cons_of_pos (by simp [h])]
    rfl
  · rw [if_neg h, List.filter_cons_of_neg (by simp [h])]
    rfl
theorem kcN_all {k : Int} {l : List Int} : l.all (· == k) = decide ((kcN k l : Int) = (l.length : Int)) := by
  unfold kcN
  rw [Bool.eq_iff_iff, List.all_eq_true, decide_eq_true_eq]
  rw [show ((l.filter (· == k)).length : Int) = (l.length : Int) ↔ (l.filter (· == k)).length = l.length by omega]
  rw [List.length_filter_eq_length_iff]

section

variable {ns : List Nd} {ar ks : List Int}
theorem so_len (h : ar.map (soAt ns) = ks) : ar.length = ks.length := by rw [← h, List.length_map]
theorem all_kc (h : ar.map (soAt ns) = ks) (s : Int) : allB ns s ar = decide ((kcN s ks : Int) = (ks.length : Int)) := by rw [allB_map h, kcN_all]
theorem s_true (h : ar.map (soAt ns) = ks) : srtB ns 1 ar = decide (ks.length = 0) := by
  have e : srtB ns 1 ar = decide (ar.length = 0) := by unfold srtB; simp
  rw [e, so_len h]
theorem s_not (h : ar.map (soAt ns) = ks) : srtB ns 3 ar = (decide (ks.length = 1) && decide ((kcN 0 ks : Int) = (ks.length : Int))) := by
  have e : srtB ns 3 ar = (decide (ar.length = 1) && allB ns 0 ar) := by unfold srtB; simp
  rw [e, all_kc h, so_len h]
theorem s_and (h : ar.map (soAt ns) = ks) (op : Int) (ho : op = 4 ∨ op = 6 ∨ op = 7) : srtB ns op ar = (decide (2 ≤ ks.length) && decide ((kcN 0 ks : Int) = (ks.length : Int))) := by
  have e : srtB ns op ar = (decide (2 ≤ ar.length) && allB ns 0 ar) := by rcases ho with rfl | rfl | rfl <;> (unfold srtB; simp)
  rw [e, all_kc h, so_len h]
theorem s_eq (h : ar.map (soAt ns) = ks) (op : Int) (ho : op = 8 ∨ op = 9) : srtB ns op ar = (decide (2 ≤ ks.length) && allB ns (soAt ns (ar.getD 0 0)) ar) := by
  have e : srtB ns op ar = (decide (2 ≤ ar.length) && allB ns (soAt ns (ar.getD 0 0)) ar) := by rcases ho with rfl | rfl <;> (unfold srtB; simp)
  rw [e, so_len h]
theorem s_add (h : ar.map (soAt ns) = ks) : srtB ns 13 ar = (decide (2 ≤ ks.length) && decide ((kcN 1 ks : Int) = (ks.length : Int))) := by
  have e : srtB ns 13 ar = recB ns 13 ar := by unfold srtB; simp
  rw [e]
  unfold recB
  rw [all_kc h, so_len h, Bool.eq_iff_iff]
  simp
  omega
theorem s_sub (h : ar.map (soAt ns) = ks) : srtB ns 14 ar = (decide (1 ≤ ks.length) && decide ((kcN 1 ks : Int) = (ks.length : Int))) := by
  have e : srtB ns 14 ar = recB ns 14 ar := by unfold srtB; simp
  rw [e]
  unfold recB
  rw [all_kc h, so_len h, Bool.eq_iff_iff]
  simp
theorem s_le (h : ar.map (soAt ns) = ks) (op : Int) (ho : op = 17 ∨ op = 20) : srtB ns op ar = (decide (2 ≤ ks.length) && decide ((kcN 1 ks : Int) = (ks.length : Int))) := by
  have e : srtB ns op ar = (decide (2 ≤ ar.length) && allB ns 1 ar) := by rcases ho with rfl | rfl <;> (unfold srtB; simp)
  rw [e, all_kc h, so_len h]
theorem so_get (h : ar.map (soAt ns) = ks) {i : Nat} (hi : i < ks.length) : soAt ns (ar.getD i 0) = ks.getD i 0 := by
  have hl := so_len h
  subst h
  rw [List.getD_eq_getElem?_getD, List.getD_eq_getElem?_getD, List.getElem?_map, List.getElem?_eq_getElem (by omega)]
  rfl
theorem s_one (h : ar.map (soAt ns) = ks) (hk : ∀ k ∈ ks, k = 0 ∨ k = 1 ∨ k = 2) (op : Int) (ho : op = 8 ∨ op = 9) : srtB ns op ar = (decide (2 ≤ ks.length) && (decide ((kcN 0 ks : Int) = (ks.length : Int)) || decide ((kcN 1 ks : Int) = (ks.length : Int)) || decide ((kcN 2 ks : Int) = (ks.length : Int)))) := by
  rw [s_eq h op ho]
  by_cases h2 : 2 ≤ ks.length
  · rw [so_get h (by omega), allB_map h, ← kcN_all, ← kcN_all, ← kcN_all]
    congr 1
    cases ks with
    | nil => simp at h2
    | cons x l =>
      rcases hk x (by simp) with rfl | rfl | rfl <;> simp
  · rw [decide_eq_false h2]
    rfl
theorem s_ite (h : ar.map (soAt ns) = ks) : srtB ns 10 ar = (decide (ks.length = 3) && ((ks.getD 0 0 == 0) && (ks.getD 2 0 == ks.getD 1 0))) := by
  have e : srtB ns 10 ar = iteB ns ar := by unfold srtB; simp
  rw [e]
  unfold iteB
  rw [so_len h]
  by_cases h3 : ks.length = 3
  · have ha : ar.length = 3 := by rw [so_len h]; exact h3
    match ar, ha with
    | [a, b, c], _ =>
      subst h
      simp [allB]
  · rw [decide_eq_false h3]
    rfl
theorem so_ite (h : ar.map (soAt ns) = ks) (h3 : ks.length = 3) : srtS ns 10 ar = ks.getD 1 0 := by
  have e : srtS ns 10 ar = iteS ns ar := by unfold srtS; simp
  rw [e]
  unfold iteS
  rw [if_pos (by rw [so_len h]; exact h3), so_get h (by omega)]
end

end Nt

end Go.Proofs.YtfdeiejphlaokaaGreatDoor

namespace Go.Proofs.YtfdeiejphlaokaaGreatDoor

open Go.ChangeShapes Go.RowKit

namespace Nt
set_option maxRecDepth 100000
set_option linter.unusedSimpArgs false
set_option linter.unusedVariables false

section

variable {B : Nat} {w W : World} {q N gn gc : Nat} {v : Value} {l ks : List Int} {c0 c1 c2 : Nat} {ns : List Nd}
theorem Hv.next {W' : World} (h : Hv B w W q N gn gc v l ks c0 c1 c2 ns) (hb : Below W.heap.size W W') : Hv B w W' q N gn gc v l ks c0 c1 c2 ns :=
  ⟨h.tt.next hb, h.cs, h.le, h.row.off (Off.of_below hb []) (by simp), h.nm.next hb, h.cn.next hb, h.so, h.inn, h.ne, h.gg⟩
theorem Hv.al (h : Hv B w W q N gn gc v l ks c0 c1 c2 ns) (o : Obj) : Hv B w (W.alloc o) q N gn gc v l ks c0 c1 c2 ns := h.next (bel_al W o)
theorem Hv.set (h : Hv B w W q N gn gc v l ks c0 c1 c2 ns) (j : Nat) (u : Value) {d0 d1 d2 : Nat} (e : #[.int .i64 (d0 : Int), .int .i64 (d1 : Int), .int .i64 (d2 : Int)] = (#[.int .i64 (c0 : Int), .int .i64 (c1 : Int), .int .i64 (c2 : Int)] : Array Value).setIfInBounds j u) :
    Hv B w (W.setCell ⟨gc, j, none⟩ u) q N gn gc v l ks d0 d1 d2 ns :=
  ⟨h.tt.setCell _ _ (by simp) h.gg.2, h.cs, h.le, h.row.off ((Off.refl [gc] W).setCell _ _ (.inl (by simp))) (fun k hk => by simp; exact (h.ne k hk).2.1), h.nm.set_far _ _ h.gg.1, h.cn.set u e, h.so, h.inn, h.ne, h.gg⟩
theorem Hv.start (h : Tt [] B w W q 0 so0 (fuN 10) dcl []) : Hv B w ((W.alloc (.cells #[.string ⟨#[112]⟩, .string ⟨#[120]⟩, .string ⟨#[97]⟩] 9)).alloc (.cells #[.int .i64 0, .int .i64 0, .int .i64 0] 48)) q 0 W.heap.size (W.heap.size + 1) (.slice none 0 0) [] [] 0 0 0 [] := by
  have hb := h.base
  have h1 := (h.alloc (.cells #[.string ⟨#[112]⟩, .string ⟨#[120]⟩, .string ⟨#[97]⟩] 9)).alloc (.cells #[.int .i64 0, .int .i64 0, .int .i64 0] 48)
  have e : (W.alloc (.cells #[.string ⟨#[112]⟩, .string ⟨#[120]⟩, .string ⟨#[97]⟩] 9)).heap.size = W.heap.size + 1 := by simp
  rw [e] at h1
  exact ⟨by simpa [Value.ownBlock] using h1, fun n hn => by simp at hn, Nat.le_refl _, Zw.nil _ _, (Bk.new _ _ _).al _, Bk.new1 _ _ _ _, rfl, fun a ha => by simp at ha, by simp [Value.ownBlock], by omega, by omega⟩

/-- The operator over all that was made: what Make and Sort tell. -/
theorem Hv.fin {A : Option Addr} {c n : Nat} (h : Hv B w W q N gn gc (.slice A n c) l ks c0 c1 c2 ns) (hn : l.length = n) (hN : N ≤ 900) (h5 : n ≤ 5) (op : Int) (h1 : 1 ≤ op) (h2 : op ≤ 20) (h11 : op ≠ 11) (h12 : op ≠ 12) (h15 : op ≠ 15) (h16 : op ≠ 16) (s : Int) (b : Bool) (hb : srtB ns op l = b) (hs : srtB ns op l = true → srtS ns op l = s) :
    Calls Tryz.prog 16 (zArgs q op A n c) W fun ee w' => (b = true ∧ ∃ x, ee = .returned (.tuple #[.int .i64 x, .int .i64 0]) ∧ Below B w w' ∧ Calls Tryz.prog 17 #[.pointer (some ⟨q, 0, none⟩), .int .i64 x] w' fun e w'' => e = .returned (.tuple #[.int .i64 s, .bool true]) ∧ w' = w'') ∨
      (b = false ∧ ee = .returned (.tuple #[.int .i64 0, .int .i64 3]) ∧ Below B w w') := by
  subst hn
  obtain ⟨k1, k2, k3⟩ := h.rx
  refine (make_any h.tt h.cs (by omega) h.le op h1 h2 h11 h12 h15 h16 A l c k1 h5 k2 k3 h.inn).mono fun ee w' hh => ?_
  by_cases hx : srtB ns op l = true
  · rw [if_pos hx] at hh
    obtain ⟨e, n, hn, ht⟩ := hh
    have hl := h.le
    refine .inl ⟨hb ▸ hx, _, e, ht.below, ?_⟩
    have := sort_t ht (by omega) ns.length (by simp)
    simpa [hn, hs hx] using this
  · rw [if_neg hx] at hh
    exact .inr ⟨by rw [← hb]; simpa using hx, hh.1, hh.2⟩
theorem Hv.drewN (h : Hv B w W q N gn gc v l ks c0 c1 c2 ns) (k : Nat) : Hv B w (W.drewN k) q N gn gc v l ks c0 c1 c2 ns := h.next (((Off.refl [] W).drewN k).below (Nat.le_refl _) (by simp))
end

/-- Which operators the law draws. -/
def OpIn (o : Int) : Prop := o = 1 ∨ o = 3 ∨ o = 4 ∨ o = 6 ∨ o = 8 ∨ o = 9 ∨ o = 10 ∨ o = 13 ∨ o = 14 ∨ o = 17 ∨ o = 7 ∨ o = 20
/-- May it be so? What is its sort? -/
def gdB (b0 b1 g1 g2 x0 x1 x2 z : Bool) (o : Int) : Bool := if o = 1 then b0 else if o = 3 then b1 && x0 else if o = 4 ∨ o = 6 ∨ o = 7 then g2 && x0 else if o = 8 ∨ o = 9 then g2 && (x0 || x1 || x2) else if o = 10 then z else if o = 14 then g1 && x1 else g2 && x1
def svI (k1 o : Int) : Int := if o = 10 then k1 else if o = 13 ∨ o = 14 then 1 else 0
theorem eql_b (t : TypeId) (x y : Int) (b : Bool) (h : decide (x = y) = b) : binOp .eql t (.int .i64 x) (.int .i64 y) = pure (.bool b) := by
  subst h
  rfl
theorem geq_b (t : TypeId) (x y : Int) (b : Bool) (h : decide (y ≤ x) = b) : binOp .geq t (.int .i64 x) (.int .i64 y) = pure (.bool b) := by
  subst h
  rfl

set_option maxHeartbeats 64000000 in
theorem sorts_law (op : Int) (A0 : Option Addr) (xs : List Int) (c0 : Nat) (w : World) (hir : Ir [] w A0 xs) : Calls Tryz.prog 5 #[.int .i64 op, .slice A0 xs.length c0] w fun e w' => e = .returned (.bool true) ∧ Below w.heap.size w w' := by
  by_cases hfar : 5 < xs.length
  · have ha := awake7 w
    clear hir
    generalize xs.length = m at *
    go_enter Tryz.func5, Tryz.ntmps5
    go_wp2_with (go_at_call 6; (with_reducible refine ha.mono ?_); rintro e w1 ⟨rfl, hb⟩; replace hb := hide hb)
    go_ret
    exact ⟨rfl, hb.out⟩
  have hm5 : xs.length ≤ 5 := by omega
  obtain ⟨B, hB⟩ : ∃ B, B = w.heap.size := ⟨_, rfl⟩
  have hrd : ∀ W, Below B w W → ∀ i, i < xs.length → ∃ b o, A0 = some ⟨b, o, none⟩ ∧ ∀ j, j < xs.length → W.cell? ⟨b, o + j, none⟩ = some (.int .i64 (xs.getD j 0)) := by
    intro W hb i hi
    rw [hB] at hb
    rcases hir.off (T' := []) (Off.of_below hb []) (by simp) (by simp) with he | ⟨b, o, e, _, _, hc⟩
    · rw [he] at hi; simp at hi
    · exact ⟨b, o, e, hc⟩
  have haw : ∀ W, Below B w W → B ≤ W.heap.size → Calls Tryz.prog 6 #[] W fun e w' => e = .returned (.bool true) ∧ Below B w w' := fun W hb hB => (awake7 W).mono fun e w' ⟨he, h1⟩ => ⟨he, hb.trans (h1.mono hB)⟩
  have ht := tables_t w
  rw [← hB] at ht ⊢
  obtain ⟨ks, hks⟩ : ∃ ks : List Int, ks = xs.map fun x => x % ((3 : Nat) : Int) := ⟨_, rfl⟩
  have hkl : ks.length = xs.length := by rw [hks, List.length_map]
  have hk3 : ∀ a ∈ ks, a = 0 ∨ a = 1 ∨ a = (2 : Int) := by
    intro a ha
    rw [hks] at ha
    obtain ⟨x, _, rfl⟩ := List.mem_map.1 ha
    omega
  have hr : ∀ i, i < xs.length → ∀ W, Calls Tryz.prog 8 #[.int .i64 (xs.getD i 0), .int .i64 3] W fun e w' => e = .returned (.int .i64 (ks.getD i 0)) ∧ W = w' := by
    intro i hi W
    have e : ks.getD i 0 = xs.getD i 0 % ((3 : Nat) : Int) := by
      rw [hks]
      simp [List.getD_eq_getElem?_getD, List.getElem?_map, List.getElem?_eq_getElem hi]
    rw [e]
    exact round_any (xs.getD i 0) 3 (by decide) (by decide) W
  generalize hm : xs.length = m at *
  replace hm := hide hm; replace hks := hide hks; replace hk3 := hide hk3; replace hkl := hide hkl
  replace hrd := hide hrd
  replace haw := hide haw
  replace ht := hide ht
  replace hr := hide hr
  replace hB := hide hB
  clear hir hfar
  go_enter Tryz.func5, Tryz.ntmps5
  go_wp2_with (go_at_call 7; (with_reducible refine ht.out.mono ?_); rintro e w1 ⟨q, z, rfl, T1⟩; replace T1 := hide (Hv.start T1))
  clear ht
  generalize w1.heap.size = gn at *
  go_loopw [8, 11] (fun v ii wr => ∃ (i : Nat) (A : Option Addr) (c N : Nat) (l : List Int) (ns : List Nd) (d0 d1 d2 : Nat), i ≤ m ∧ ii = .int .i64 (i : Int) ∧ v = .slice A i c ∧ l.length = i ∧ N ≤ i ∧ d0 = kcN 0 (ks.take i) ∧ d1 = kcN 1 (ks.take i) ∧ d2 = kcN 2 (ks.take i) ∧ Hv B w wr q N gn (gn + 1) (.slice A i c) l (ks.take i) d0 d1 d2 ns) (fun _ ii _ => m - (intOf ii).toNat)
  case atStart => exact ⟨0, none, 0, 0, [], [], 0, 0, 0, Nat.zero_le _, rfl, rfl, rfl, Nat.le_refl _, rfl, rfl, rfl, T1.out⟩
  case round =>
    obtain ⟨i, A, c, N, l, ns, d0, d1, d2, hi, rfl, rfl, hli, hN, e0, e1, e2, hS⟩ := hrel
    by_cases hlt : i < m
    · obtain ⟨b, o, rfl, hc⟩ := hrd.out wr hS.tt.below i hlt
      replace hc := hc i hlt
      obtain ⟨k, hk⟩ : ∃ k, k = ks.getD i 0 := ⟨_, rfl⟩
      have hr := hr.out i hlt
      rw [← hk] at hr
      have hik : i < ks.length := by rw [hkl.out]; exact hlt
      have hkk : k = 0 ∨ k = 1 ∨ k = 2 := hk3.out k (by rw [hk, List.getD_eq_getElem?_getD, List.getElem?_eq_getElem hik]; exact List.getElem_mem hik)
      have htk : ks.take (i + 1) = ks.take i ++ [k] := by rw [hk]; exact take_next3 hik
      have f0 := kcN_push 0 (ks.take i) k
      have f1 := kcN_push 1 (ks.take i) k
      have f2 := kcN_push 2 (ks.take i) k
      rw [← htk, ← e0] at f0
      rw [← htk, ← e1] at f1
      rw [← htk, ← e2] at f2
      have hd : d0 ≤ 10 ∧ d1 ≤ 10 ∧ d2 ≤ 10 := by
        have hx : ∀ k, kcN k (ks.take i) ≤ 10 := fun k => Nat.le_trans (List.length_filter_le _ _) (by rw [List.length_take]; omega)
        rw [e0, e1, e2]
        exact ⟨hx 0, hx 1, hx 2⟩
      obtain ⟨hd0, hd1, hd2⟩ := hd
      have y0 := hS.nm.cell (j := 0) rfl
      have y1 := hS.nm.cell (j := 1) rfl
      have y2 := hS.nm.cell (j := 2) rfl
      have happ := hS.app (by omega) k hkk
      have hpush : ∀ (j : Int) (ns' : List Nd) (W : World), Hv B w W q (N + 1) gn (gn + 1) (.slice A i c) l (ks.take i) d0 d1 d2 ns' → (0 ≤ j ∧ j < (ns'.length : Int)) → soAt ns' j = k → ∃ A' c' W', (∀ ty, (Builtin.append_ #[22, 22] ty #[.slice A i c, .slice (some ⟨W.heap.size, 0, none⟩) 1 1]).run Tryz.prog (W.alloc (.cells #[.int .i64 j] 3)) = .ok (.slice A' (i + 1) c') W') ∧ Hv B w W' q (N + 1) gn (gn + 1) (.slice A' (i + 1) c') (l ++ [j]) (ks.take (i + 1)) d0 d1 d2 ns' := by
        intro j ns' W h1 h2 h3
        rw [htk]
        have := h1.push j k h2 h3 (by omega)
        rw [hli] at this
        exact this
      replace hr := hide hr; replace happ := hide happ; replace hpush := hide hpush; replace f0 := hide f0; replace f1 := hide f1; replace f2 := hide f2
      replace e0 := hide e0; replace e1 := hide e1; replace e2 := hide e2; replace hli := hide hli; replace hk := hide hk
      clear htk hik hS
      generalize xs.getD i 0 = x at *
      rcases hkk with rfl | rfl | rfl
      all_goals as_aux_lemma =>
        have happ := happ.out
        first | rw [show knm 0 = ⟨#[112]⟩ from rfl] at happ | rw [show knm 1 = ⟨#[120]⟩ from rfl] at happ | rw [show knm 2 = ⟨#[97]⟩ from rfl] at happ
        replace happ := hide happ
        go_wp2_with (first
          | (go_at_call 8; (with_reducible refine (hr.out _).mono ?_); rintro e wa ⟨rfl, rfl⟩)
          | (go_at_call 14; (with_reducible refine happ.out.mono ?_); rintro e wa ⟨j, ns', rfl, hv, hj, hsj⟩; obtain ⟨A', c', wb, hap, hp⟩ := hpush.out j ns' wa hv hj hsj; clear hv hj; have z0 := hp.cn.cell (j := 0) rfl; have z1 := hp.cn.cell (j := 1) rfl; have z2 := hp.cn.cell (j := 2) rfl; have u0 := hp.cn.free 0; have u1 := hp.cn.free 1; have u2 := hp.cn.free 2; replace hp := hide hp)
          | (at_builtin; refine wpList_append_run _ rfl _ _ _ rfl _ _ _ _ rfl rfl hap ?_))
        go_roundw
        case rel => first
          | exact ⟨i + 1, A', c', N + 1, _, ns', d0 + 1, d1, d2, hlt, by go_num, rfl, by simp [hli.out], by omega, by rw [f0.out]; rfl, by rw [f1.out]; rfl, by rw [f2.out]; rfl, hp.out.set 0 _ (by simp)⟩
          | exact ⟨i + 1, A', c', N + 1, _, ns', d0, d1 + 1, d2, hlt, by go_num, rfl, by simp [hli.out], by omega, by rw [f0.out]; rfl, by rw [f1.out]; rfl, by rw [f2.out]; rfl, hp.out.set 1 _ (by simp)⟩
          | exact ⟨i + 1, A', c', N + 1, _, ns', d0, d1, d2 + 1, hlt, by go_num, rfl, by simp [hli.out], by omega, by rw [f0.out]; rfl, by rw [f1.out]; rfl, by rw [f2.out]; rfl, hp.out.set 2 _ (by simp)⟩
        case measure => simp only [intOf]; omega
    · have hmi : i = m := by omega
      subst hmi
      have hwk : ks.take i = ks := by rw [← hkl.out, List.take_length]
      rw [hwk] at hS e0 e1 e2
      have hso := hS.so
      have hS1 := hS.al (.cells #[.int .i64 1, .int .i64 3, .int .i64 4, .int .i64 6, .int .i64 8, .int .i64 9, .int .i64 10, .int .i64 13, .int .i64 14, .int .i64 17, .int .i64 7, .int .i64 20] 3)
      have hN9 : N ≤ 900 := by omega
      obtain ⟨b0, hb0⟩ : ∃ b, decide (i = 0) = b := ⟨_, rfl⟩
      obtain ⟨b1, hb1⟩ : ∃ b, decide (i = 1) = b := ⟨_, rfl⟩
      obtain ⟨g1, hg1⟩ : ∃ b, decide (1 ≤ i) = b := ⟨_, rfl⟩
      obtain ⟨g2, hg2⟩ : ∃ b, decide (2 ≤ i) = b := ⟨_, rfl⟩
      obtain ⟨x0, hx0⟩ : ∃ b, decide ((d0 : Int) = (i : Int)) = b := ⟨_, rfl⟩
      obtain ⟨x1, hx1⟩ : ∃ b, decide ((d1 : Int) = (i : Int)) = b := ⟨_, rfl⟩
      obtain ⟨x2, hx2⟩ : ∃ b, decide ((d2 : Int) = (i : Int)) = b := ⟨_, rfl⟩
      obtain ⟨k0, hk0⟩ : ∃ k, ks.getD 0 0 = k := ⟨_, rfl⟩
      obtain ⟨k1, hk1⟩ : ∃ k, ks.getD 1 0 = k := ⟨_, rfl⟩
      obtain ⟨k2, hk2⟩ : ∃ k, ks.getD 2 0 = k := ⟨_, rfl⟩
      obtain ⟨z0, hz0⟩ : ∃ b, decide (k0 = 0) = b := ⟨_, rfl⟩
      obtain ⟨z1, hz1⟩ : ∃ b, decide (k1 = k2) = b := ⟨_, rfl⟩
      obtain ⟨z, hz⟩ : ∃ z, z = (decide (i = 3) && (z0 && z1)) := ⟨_, rfl⟩
      have hgd : ∀ o, OpIn o → srtB ns o l = gdB b0 b1 g1 g2 x0 x1 x2 z o ∧ (srtB ns o l = true → srtS ns o l = svI k1 o) := by
        intro o ho
        rcases ho with rfl | rfl | rfl | rfl | rfl | rfl | rfl | rfl | rfl | rfl | rfl | rfl
        · exact ⟨by rw [s_true hso, hkl.out, hb0]; rfl, fun _ => by unfold srtS; simp [svI]⟩
        · exact ⟨by rw [s_not hso, hkl.out, ← e0, hb1, hx0]; rfl, fun _ => by unfold srtS; simp [svI]⟩
        · exact ⟨by rw [s_and hso 4 (by decide), hkl.out, ← e0, hg2, hx0]; rfl, fun _ => by unfold srtS; simp [svI]⟩
        · exact ⟨by rw [s_and hso 6 (by decide), hkl.out, ← e0, hg2, hx0]; rfl, fun _ => by unfold srtS; simp [svI]⟩
        · exact ⟨by rw [s_one hso hk3.out 8 (by decide), hkl.out, ← e0, ← e1, ← e2, hg2, hx0, hx1, hx2]; rfl, fun _ => by unfold srtS; simp [svI]⟩
        · exact ⟨by rw [s_one hso hk3.out 9 (by decide), hkl.out, ← e0, ← e1, ← e2, hg2, hx0, hx1, hx2]; rfl, fun _ => by unfold srtS; simp [svI]⟩
        · have e : srtB ns 10 l = z := by
            rw [s_ite hso, hkl.out, hk0, hk1, hk2, hz, ← hz0, ← hz1, show (k0 == 0) = decide (k0 = 0) from rfl, show (k2 == k1) = decide (k1 = k2) by rw [Bool.eq_iff_iff, beq_iff_eq, decide_eq_true_eq]; exact eq_comm]
          refine ⟨by rw [e]; rfl, fun ht => ?_⟩
          rw [e, hz] at ht
          have h3 : i = 3 := by
            by_cases h3 : i = 3
            · exact h3
            · rw [decide_eq_false h3] at ht; simp at ht
          rw [so_ite hso (by rw [hkl.out]; exact h3), hk1]
          rfl
        · exact ⟨by rw [s_add hso, hkl.out, ← e1, hg2, hx1]; rfl, fun _ => by unfold srtS; simp [svI]⟩
        · exact ⟨by rw [s_sub hso, hkl.out, ← e1, hg1, hx1]; rfl, fun _ => by unfold srtS; simp [svI]⟩
        · exact ⟨by rw [s_le hso 17 (by decide), hkl.out, ← e1, hg2, hx1]; rfl, fun _ => by unfold srtS; simp [svI]⟩
        · exact ⟨by rw [s_and hso 7 (by decide), hkl.out, ← e0, hg2, hx0]; rfl, fun _ => by unfold srtS; simp [svI]⟩
        · exact ⟨by rw [s_le hso 20 (by decide), hkl.out, ← e1, hg2, hx1]; rfl, fun _ => by unfold srtS; simp [svI]⟩
      have q0 := eql_b 3 (i : Int) 0 b0 (by rw [← hb0]; exact decide_eq_decide.2 (by omega))
      have q1 := eql_b 3 (i : Int) 1 b1 (by rw [← hb1]; exact decide_eq_decide.2 (by omega))
      have q2 := geq_b 3 (i : Int) 1 g1 (by rw [← hg1]; exact decide_eq_decide.2 (by omega))
      have q3 := geq_b 3 (i : Int) 2 g2 (by rw [← hg2]; exact decide_eq_decide.2 (by omega))
      have q4 := eql_b 3 (d0 : Int) (i : Int) x0 hx0
      have q5 := eql_b 3 (d1 : Int) (i : Int) x1 hx1
      have q6 := eql_b 3 (d2 : Int) (i : Int) x2 hx2
      have q7 : b1 = true → binOp .eql 3 (.int .i64 (d0 : Int)) (.int .i64 1) = pure (.bool x0) := fun h => by
        rw [h, decide_eq_true_eq] at hb1
        exact eql_b _ _ _ _ (by rw [← hx0, hb1]; rfl)
      have t0 := hS1.cn.cell (j := 0) rfl
      have t1 := hS1.cn.cell (j := 1) rfl
      have t2 := hS1.cn.cell (j := 2) rfl
      have hr3 : i = 3 → ∃ b o, A0 = some ⟨b, o, none⟩ ∧ ∀ j, j < 3 → (wr.alloc (.cells #[.int .i64 1, .int .i64 3, .int .i64 4, .int .i64 6, .int .i64 8, .int .i64 9, .int .i64 10, .int .i64 13, .int .i64 14, .int .i64 17, .int .i64 7, .int .i64 20] 3)).cell? ⟨b, o + j, none⟩ = some (.int .i64 (xs.getD j 0)) := fun h3 => by
        obtain ⟨b, o, e, hc⟩ := hrd.out _ hS1.tt.below 0 (by omega)
        exact ⟨b, o, e, fun j hj => hc j (by omega)⟩
      have m0 : i = 3 → ∀ W, Calls Tryz.prog 8 #[.int .i64 (xs.getD 0 0), .int .i64 3] W fun e w' => e = .returned (.int .i64 k0) ∧ W = w' := fun h3 => by rw [← hk0]; exact hr.out 0 (by omega)
      have m1 : i = 3 → ∀ W, Calls Tryz.prog 8 #[.int .i64 (xs.getD 1 0), .int .i64 3] W fun e w' => e = .returned (.int .i64 k1) ∧ W = w' := fun h3 => by rw [← hk1]; exact hr.out 1 (by omega)
      have m2 : i = 3 → ∀ W, Calls Tryz.prog 8 #[.int .i64 (xs.getD 2 0), .int .i64 3] W fun e w' => e = .returned (.int .i64 k2) ∧ W = w' := fun h3 => by rw [← hk2]; exact hr.out 2 (by omega)
      have r0 := (Bk.new #[.int .i64 1, .int .i64 3, .int .i64 4, .int .i64 6, .int .i64 8, .int .i64 9, .int .i64 10, .int .i64 13, .int .i64 14, .int .i64 17, .int .i64 7, .int .i64 20] 3 wr).cell (j := 0) rfl
      have r1 := (Bk.new #[.int .i64 1, .int .i64 3, .int .i64 4, .int .i64 6, .int .i64 8, .int .i64 9, .int .i64 10, .int .i64 13, .int .i64 14, .int .i64 17, .int .i64 7, .int .i64 20] 3 wr).cell (j := 1) rfl
      have r2 := (Bk.new #[.int .i64 1, .int .i64 3, .int .i64 4, .int .i64 6, .int .i64 8, .int .i64 9, .int .i64 10, .int .i64 13, .int .i64 14, .int .i64 17, .int .i64 7, .int .i64 20] 3 wr).cell (j := 2) rfl
      have r3 := (Bk.new #[.int .i64 1, .int .i64 3, .int .i64 4, .int .i64 6, .int .i64 8, .int .i64 9, .int .i64 10, .int .i64 13, .int .i64 14, .int .i64 17, .int .i64 7, .int .i64 20] 3 wr).cell (j := 3) rfl
      have r4 := (Bk.new #[.int .i64 1, .int .i64 3, .int .i64 4, .int .i64 6, .int .i64 8, .int .i64 9, .int .i64 10, .int .i64 13, .int .i64 14, .int .i64 17, .int .i64 7, .int .i64 20] 3 wr).cell (j := 4) rfl
      have r5 := (Bk.new #[.int .i64 1, .int .i64 3, .int .i64 4, .int .i64 6, .int .i64 8, .int .i64 9, .int .i64 10, .int .i64 13, .int .i64 14, .int .i64 17, .int .i64 7, .int .i64 20] 3 wr).cell (j := 5) rfl
      have r6 := (Bk.new #[.int .i64 1, .int .i64 3, .int .i64 4, .int .i64 6, .int .i64 8, .int .i64 9, .int .i64 10, .int .i64 13, .int .i64 14, .int .i64 17, .int .i64 7, .int .i64 20] 3 wr).cell (j := 6) rfl
      have r7 := (Bk.new #[.int .i64 1, .int .i64 3, .int .i64 4, .int .i64 6, .int .i64 8, .int .i64 9, .int .i64 10, .int .i64 13, .int .i64 14, .int .i64 17, .int .i64 7, .int .i64 20] 3 wr).cell (j := 7) rfl
      have r8 := (Bk.new #[.int .i64 1, .int .i64 3, .int .i64 4, .int .i64 6, .int .i64 8, .int .i64 9, .int .i64 10, .int .i64 13, .int .i64 14, .int .i64 17, .int .i64 7, .int .i64 20] 3 wr).cell (j := 8) rfl
      have r9 := (Bk.new #[.int .i64 1, .int .i64 3, .int .i64 4, .int .i64 6, .int .i64 8, .int .i64 9, .int .i64 10, .int .i64 13, .int .i64 14, .int .i64 17, .int .i64 7, .int .i64 20] 3 wr).cell (j := 9) rfl
      have r10 := (Bk.new #[.int .i64 1, .int .i64 3, .int .i64 4, .int .i64 6, .int .i64 8, .int .i64 9, .int .i64 10, .int .i64 13, .int .i64 14, .int .i64 17, .int .i64 7, .int .i64 20] 3 wr).cell (j := 10) rfl
      have r11 := (Bk.new #[.int .i64 1, .int .i64 3, .int .i64 4, .int .i64 6, .int .i64 8, .int .i64 9, .int .i64 10, .int .i64 13, .int .i64 14, .int .i64 17, .int .i64 7, .int .i64 20] 3 wr).cell (j := 11) rfl
      have hro : ∀ W, Calls Tryz.prog 8 #[.int .i64 op, .int .i64 12] W fun e w' => e = .returned (.int .i64 (op % 12)) ∧ W = w' := fun W => round_any op 12 (by decide) (by decide) W
      have h12 : op % 12 = 0 ∨ op % 12 = 1 ∨ op % 12 = 2 ∨ op % 12 = 3 ∨ op % 12 = 4 ∨ op % 12 = 5 ∨ op % 12 = 6 ∨ op % 12 = 7 ∨ op % 12 = 8 ∨ op % 12 = 9 ∨ op % 12 = 10 ∨ op % 12 = 11 := by omega
      clear hb0 hb1 hg1 hg2 hx0 hx1 hx2 hk0 hk1 hk2 hso e0 e1 e2 hrd hr hk3 hkl hks hm T1 hwk hi hlt hN
      replace m0 := hide m0; replace m1 := hide m1; replace m2 := hide m2; replace hr3 := hide hr3; replace hgd := hide hgd; replace q7 := hide q7; replace hz := hide hz; replace hli := hide hli
      replace hz0 := hide hz0; replace hz1 := hide hz1
      go_upto_region 17 with fail
      go_cut [14] (fun s14 wx => ∃ o, s14 = .int .i64 o ∧ OpIn o ∧ wx = wr.alloc (.cells #[.int .i64 1, .int .i64 3, .int .i64 4, .int .i64 6, .int .i64 8, .int .i64 9, .int .i64 10, .int .i64 13, .int .i64 14, .int .i64 17, .int .i64 7, .int .i64 20] 3))
      case first =>
        as_aux_lemma =>
          go_wp2_with (go_at_call 8; (with_reducible refine (hro _).mono ?_); rintro e wa ⟨rfl, rfl⟩; rcases h12 with h | h | h | h | h | h | h | h | h | h | h | h <;> rw [h] <;> clear h)
          all_goals
            go_meet
            exact ⟨_, rfl, by unfold OpIn; decide, rfl⟩
      case rest =>
      obtain ⟨o, rfl, ho, rfl⟩ := hcut
      clear r0 r1 r2 r3 r4 r5 r6 r7 r8 r9 r10 r11 hro h12
      go_upto_region 18 with fail
      go_cut [15] (fun s15 wx => s15 = .bool (x0 || x1 || x2) ∧ wx = wr.alloc (.cells #[.int .i64 1, .int .i64 3, .int .i64 4, .int .i64 6, .int .i64 8, .int .i64 9, .int .i64 10, .int .i64 13, .int .i64 14, .int .i64 17, .int .i64 7, .int .i64 20] 3))
      case first =>
        as_aux_lemma =>
          cases x0 <;> cases x1 <;> cases x2
          all_goals
            go_wp2_with fail
            go_meet
            exact ⟨rfl, rfl⟩
      case rest =>
      obtain ⟨rfl, rfl⟩ := hcut
      clear hS
      go_upto_block 2 with fail
      go_cut [16, 17] (fun s16 s17 wx => ∃ si, s16 = .bool (gdB b0 b1 g1 g2 x0 x1 x2 z o) ∧ s17 = .int .i64 si ∧ (gdB b0 b1 g1 g2 x0 x1 x2 z o = true → si = svI k1 o) ∧ Hv B w wx q N gn (gn + 1) (.slice A i c) l ks d0 d1 d2 ns)
      case first =>
        generalize wr.alloc (.cells #[.int .i64 1, .int .i64 3, .int .i64 4, .int .i64 6, .int .i64 8, .int .i64 9, .int .i64 10, .int .i64 13, .int .i64 14, .int .i64 17, .int .i64 7, .int .i64 20] 3) = wx at *
        replace hS1 := hide hS1
        rcases ho with rfl | rfl | rfl | rfl | rfl | rfl | rfl | rfl | rfl | rfl | rfl | rfl
        · -- 1
          as_aux_lemma =>
            clear m0 m1 m2 hr3 hz hz0 hz1 q1 q2 q3
            clear q7
            cases b0
            all_goals
              go_wp2_with fail
              go_meet
              exact ⟨_, rfl, rfl, fun _ => rfl, hS1.out⟩
        · -- 3
          as_aux_lemma =>
            clear m0 m1 m2 hr3 hz hz0 hz1 q0 q2 q3
            cases b1
            · clear q7
              go_wp2_with fail
              go_meet
              exact ⟨_, rfl, rfl, fun _ => rfl, hS1.out⟩
            · have q7 := q7.out rfl
              go_wp2_with fail
              go_meet
              exact ⟨_, rfl, rfl, fun _ => rfl, hS1.out⟩
        · -- 4
          as_aux_lemma =>
            clear m0 m1 m2 hr3 hz hz0 hz1 q0 q1 q2
            clear q7
            cases g2
            all_goals
              go_wp2_with fail
              go_meet
              exact ⟨_, rfl, rfl, fun _ => rfl, hS1.out⟩
        · -- 6
          as_aux_lemma =>
            clear m0 m1 m2 hr3 hz hz0 hz1 q0 q1 q2
            clear q7
            cases g2
            all_goals
              go_wp2_with fail
              go_meet
              exact ⟨_, rfl, rfl, fun _ => rfl, hS1.out⟩
        · -- 8
          as_aux_lemma =>
            clear m0 m1 m2 hr3 hz hz0 hz1 q0 q1 q2
            clear q7
            cases g2
            all_goals
              go_wp2_with fail
              go_meet
              exact ⟨_, rfl, rfl, fun _ => rfl, hS1.out⟩
        · -- 9
          as_aux_lemma =>
            clear m0 m1 m2 hr3 hz hz0 hz1 q0 q1 q2
            clear q7
            cases g2
            all_goals
              go_wp2_with fail
              go_meet
              exact ⟨_, rfl, rfl, fun _ => rfl, hS1.out⟩
        · -- 10
          as_aux_lemma =>
            by_cases h3 : i = 3
            · obtain ⟨b, o, rfl, hc⟩ := hr3.out h3
              have v0 := hc 0 (by decide)
              have v1 := hc 1 (by decide)
              have v2 := hc 2 (by decide)
              rw [Nat.add_zero] at v0
              clear hc
              generalize xs.getD 0 0 = f0 at *
              generalize xs.getD 1 0 = f1 at *
              generalize xs.getD 2 0 = f2 at *
              have m0 := m0.out h3
              have m1 := m1.out h3
              have m2 := m2.out h3
              have n0 : ∀ W, Calls Tryz.prog 8 #[.int .i64 f0, .int .i64 3] W fun e w' => e = .returned (.int .i64 k0) ∧ w' = W := fun W => (m0 W).mono fun e w' ⟨h1, h2⟩ => ⟨h1, h2.symm⟩
              have n1 : ∀ W, Calls Tryz.prog 8 #[.int .i64 f1, .int .i64 3] W fun e w' => e = .returned (.int .i64 k1) ∧ w' = W := fun W => (m1 W).mono fun e w' ⟨h1, h2⟩ => ⟨h1, h2.symm⟩
              have n2 : ∀ W, Calls Tryz.prog 8 #[.int .i64 f2, .int .i64 3] W fun e w' => e = .returned (.int .i64 k2) ∧ w' = W := fun W => (m2 W).mono fun e w' ⟨h1, h2⟩ => ⟨h1, h2.symm⟩
              have hi0 : (0 : Int) < (i : Int) := by omega
              have hi1 : (1 : Int) < (i : Int) := by omega
              have hi2 : (2 : Int) < (i : Int) := by omega
              have p8 := eql_b 3 (i : Int) 3 true (decide_eq_true (by omega))
              have p9 : decide ((i : Int) = 3) = true := decide_eq_true (by omega)
              have hz := hz.out
              rw [decide_eq_true h3, Bool.true_and] at hz
              have hz0 := hz0.out
              have hz1 := hz1.out
              have p10 := eql_b 3 k0 0 z0 hz0
              have p11 := eql_b 3 k1 k2 z1 hz1
              clear h3 m0 m2 hr3 q0 q1 q2 q3 q4 q5 q6 q7 t0 t1 t2
              replace m1 := hide m1; replace n0 := hide n0; replace n1 := hide n1; replace n2 := hide n2
              have hzz : z0 = false ∨ (z0 = true ∧ z1 = false) ∨ (z0 = true ∧ z1 = true) := by cases z0 <;> cases z1 <;> simp
              rcases hzz with rfl | ⟨rfl, rfl⟩ | ⟨rfl, rfl⟩
              all_goals
                (try simp only [Bool.and_true, Bool.and_false, Bool.true_and, Bool.false_and, Bool.and_self] at hz)
                subst hz
                go_wp2_with fail
                go_big_quiet ((go_at_call 8; first | ((with_reducible show Calls _ _ #[.int .i64 f0, _] _ _); exact Calls.quiet_of_same (n0.out _)) | ((with_reducible show Calls _ _ #[.int .i64 f1, _] _ _); exact Calls.quiet_of_same (n1.out _)) | ((with_reducible show Calls _ _ #[.int .i64 f2, _] _ _); exact Calls.quiet_of_same (n2.out _))))
                go_wp2_with (go_at_call 8; (with_reducible refine (m1.out _).mono ?_); rintro e wa ⟨rfl, rfl⟩)
                go_meet
                exact ⟨_, rfl, rfl, (fun h => by first | rfl | exact absurd h (by rw [show gdB b0 b1 g1 g2 x0 x1 x2 false 10 = false from rfl]; decide)), hS1.out.drewN _⟩
            · have p8 := eql_b 3 (i : Int) 3 false (decide_eq_false (by omega))
              have p9 : decide ((i : Int) = 3) = false := decide_eq_false (by omega)
              have hz := hz.out
              rw [decide_eq_false h3, Bool.false_and] at hz
              subst hz
              clear h3 m0 m1 m2 hr3 q0 q1 q2 q3 q4 q5 q6 q7 t0 t1 t2 hz0 hz1
              go_wp2_with fail
              go_quiet (fail)
              go_wp2_with fail
              go_meet
              exact ⟨_, rfl, rfl, (fun h => by rw [show gdB b0 b1 g1 g2 x0 x1 x2 false 10 = false from rfl] at h; cases h), hS1.out.drewN _⟩
        · -- 13
          as_aux_lemma =>
            clear m0 m1 m2 hr3 hz hz0 hz1 q0 q1 q2
            clear q7
            cases g2
            all_goals
              go_wp2_with fail
              go_meet
              exact ⟨_, rfl, rfl, fun _ => rfl, hS1.out⟩
        · -- 14
          as_aux_lemma =>
            clear m0 m1 m2 hr3 hz hz0 hz1 q0 q1 q3
            clear q7
            cases g1
            all_goals
              go_wp2_with fail
              go_meet
              exact ⟨_, rfl, rfl, fun _ => rfl, hS1.out⟩
        · -- 17
          as_aux_lemma =>
            clear m0 m1 m2 hr3 hz hz0 hz1 q0 q1 q2
            clear q7
            cases g2
            all_goals
              go_wp2_with fail
              go_meet
              exact ⟨_, rfl, rfl, fun _ => rfl, hS1.out⟩
        · -- 7
          as_aux_lemma =>
            clear m0 m1 m2 hr3 hz hz0 hz1 q0 q1 q2
            clear q7
            cases g2
            all_goals
              go_wp2_with fail
              go_meet
              exact ⟨_, rfl, rfl, fun _ => rfl, hS1.out⟩
        · -- 20
          as_aux_lemma =>
            clear m0 m1 m2 hr3 hz hz0 hz1 q0 q1 q2
            clear q7
            cases g2
            all_goals
              go_wp2_with fail
              go_meet
              exact ⟨_, rfl, rfl, fun _ => rfl, hS1.out⟩
      case rest =>
      obtain ⟨si, rfl, rfl, hsi, hS2⟩ := hcut
      obtain ⟨hg, hs⟩ := hgd.out o ho
      unfold OpIn at ho
      have hF := hS2.fin hli.out hN9 hm5 o (by omega) (by omega) (by omega) (by omega) (by omega) (by omega) (svI k1 o) _ hg hs
      unfold zArgs mkArgs at hF
      clear hs hg hgd ho hS1 hS2 q0 q1 q2 q3 q4 q5 q6 q7 t0 t1 t2 m0 m1 m2 hr3 hz hz0 hz1
      generalize gdB b0 b1 g1 g2 x0 x1 x2 z o = bb at *
      generalize svI k1 o = sv at *
      replace hF := hide hF
      cases bb
      · as_aux_lemma =>
          clear hsi
          go_wp2_with (first
            | (go_at_call 16; (with_reducible refine hF.out.mono ?_); rintro e wa (⟨⟨⟩, -⟩ | ⟨-, rfl, hba⟩); replace hba := hide hba)
            | (go_at_call 6; (with_reducible refine (haw.out _ hba.out (Nat.le_trans (Nat.le_of_eq hB.out) hba.out.size)).mono ?_); rintro e wb ⟨rfl, hbb⟩; replace hbb := hide hbb))
          go_ret
          exact ⟨rfl, hbb.out⟩
      · as_aux_lemma =>
          obtain rfl := hsi rfl
          clear hsi
          go_wp2_with (first
            | (go_at_call 16; (with_reducible refine hF.out.mono ?_); rintro e wa (⟨-, x, rfl, hba, hT⟩ | ⟨⟨⟩, -⟩); replace hba := hide hba; replace hT := hide hT)
            | (go_at_call 17; (with_reducible refine hT.out.mono ?_); rintro e wb ⟨rfl, rfl⟩)
            | (go_at_call 6; (with_reducible refine (haw.out _ hba.out (Nat.le_trans (Nat.le_of_eq hB.out) hba.out.size)).mono ?_); rintro e wb ⟨rfl, hbb⟩; replace hbb := hide hbb))
          go_ret
          exact ⟨rfl, hbb.out⟩
end Nt

end Go.Proofs.YtfdeiejphlaokaaGreatDoor
