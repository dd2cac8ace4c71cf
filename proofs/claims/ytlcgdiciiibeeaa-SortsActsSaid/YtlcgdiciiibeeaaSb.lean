/-
  The law SortsFuns: names of one letter; the mathematics.
-/
import Derived.Test.YtlcgdiciiibeeaaTz
namespace Go.Proofs.Ytlcgdiciiibeeaa
open Go.ChangeShapes Go.RowKit
namespace Nt
set_option maxRecDepth 100000
set_option linter.unusedSimpArgs false
set_option linter.unusedVariables false

/-- The name of one letter. -/
def nmK (k : Nat) : ByteArray := ⟨#[UInt8.ofNat (97 + k)]⟩
def fuK (ks : List Nat) : List (ByteArray × Nat) := ks.map fun k => (nmK k, 0)
def fnK (k : Nat) : Fn := ⟨nmK k, [1], ((k % 2 : Nat) : Int)⟩
def tyK (ks : List Nat) : List Fn := ks.map fnK
theorem nmK_ok : ∀ k, k < 26 → nameB (nmK k) = true := by decide +kernel
theorem nmK_lt : ∀ a, a < 26 → ∀ b, b < 26 → decide ((nmK a).data.toList < (nmK b).data.toList) = decide (a < b) := by decide +kernel
theorem nmK_eq {a b : Nat} (ha : a < 26) (hb : b < 26) : ((nmK a).data.toList == (nmK b).data.toList) = (a == b) := by
  have : ∀ a, a < 26 → ∀ b, b < 26 → ((nmK a).data.toList == (nmK b).data.toList) = (a == b) := by decide +kernel
  exact this a ha b hb
theorem nmK_size (k : Nat) : (nmK k).size = 1 := rfl
theorem has_K {ks : List Nat} (hk : ∀ x ∈ ks, x < 26) {k : Nat} (h : k < 26) : hasB (fuK ks) (nmK k) = ks.contains k := by
  induction ks with
  | nil => rfl
  | cons x ks ih =>
    have hx := nmK_eq (hk x List.mem_cons_self) h
    have hi := ih (fun y hy => hk y (List.mem_cons_of_mem _ hy))
    have e : (x == k) = (k == x) := BEq.comm
    show (((nmK x).data.toList == (nmK k).data.toList) || hasB (fuK ks) (nmK k)) = _
    rw [hi, hx, List.contains_cons, e]
theorem free_K {ks : List Nat} (hk : ∀ x ∈ ks, x < 26) {k : Nat} (h : k < 26) : freeB (fuK ks) (nmK k) = !ks.contains k := by
  unfold freeB; rw [nmK_ok k h, has_K hk h, Bool.true_and]
theorem typed_K (k : Nat) : typedB 0 [1] ((k % 2 : Nat) : Int) = true := by
  rcases Nat.mod_two_eq_zero_or_one k with h | h <;> rw [h] <;> rfl
theorem fuK_snoc (ks : List Nat) (k : Nat) : fuK (ks ++ [k]) = fuK ks ++ [(nmK k, 0)] := by simp [fuK]
theorem tyK_snoc (ks : List Nat) (k : Nat) : tyK (ks ++ [k]) = tyK ks ++ [⟨nmK k, [1], ((k % 2 : Nat) : Int)⟩] := by simp [tyK, fnK]

/-- Which letters there are, in memory. -/
def haveC (ks : List Nat) : Array Value := ((List.range 26).map fun j => Value.bool (ks.contains j)).toArray
theorem haveC_get (ks : List Nat) {j : Nat} (h : j < 26) : (haveC ks)[j]? = some (.bool (ks.contains j)) := by
  simp [haveC, h]
theorem haveC_set (ks : List Nat) {k : Nat} (h : k < 26) : haveC (ks ++ [k]) = (haveC ks).setIfInBounds k (.bool true) := by
  apply Array.ext_getElem?
  intro j
  by_cases hj : j < 26
  · rw [haveC_get _ hj, Array.getElem?_setIfInBounds]
    by_cases e : k = j
    · subst e
      have : k < (haveC ks).size := by simp [haveC, h]
      simp [this]
    · rw [if_neg e, haveC_get _ hj]
      have : (j == k) = false := beq_eq_false_iff_ne.2 (fun h => e h.symm)
      simp only [List.contains_eq_mem, List.mem_append, List.mem_singleton]
      have e2 : ¬ j = k := fun h => e h.symm
      simp [e2]
  · have h1 : (haveC (ks ++ [k])).size ≤ j := by simp [haveC]; omega
    have h2 : ((haveC ks).setIfInBounds k (.bool true)).size ≤ j := by simp [haveC]; omega
    rw [Array.getElem?_eq_none h1, Array.getElem?_eq_none h2]
theorem haveC_same (ks : List Nat) {k : Nat} (h : k < 26) (hc : ks.contains k = true) : haveC ks = (haveC ks).setIfInBounds k (.bool true) := by
  rw [set_same]
  rw [haveC_get ks h, hc]

/-- The letters there are, in order. -/
def srt (ks : List Nat) : List Nat := (List.range 26).filter (ks.contains ·)
def cnt (ks : List Nat) (k : Nat) : Nat := ((List.range k).filter (ks.contains ·)).length
theorem srt_split (ks : List Nat) {k : Nat} (h : k < 26) : ∃ r, srt ks = (List.range k).filter (ks.contains ·) ++ ((if ks.contains k then [k] else []) ++ r) := by
  have e : List.range 26 = List.range k ++ (List.range' k (26 - k)) := by
    rw [List.range_eq_range', List.range_eq_range']
    have := List.range'_append (s := 0) (m := k) (n := 26 - k) (step := 1)
    rw [show k + (26 - k) = 26 by omega] at this
    simpa using this.symm
  have e2 : List.range' k (26 - k) = k :: List.range' (k + 1) (25 - k) := by
    have : 26 - k = (25 - k) + 1 := by omega
    rw [this, List.range'_succ]
  refine ⟨(List.range' (k + 1) (25 - k)).filter (ks.contains ·), ?_⟩
  unfold srt
  rw [e, e2, List.filter_append, List.filter_cons]
  split <;> simp_all
theorem srt_at (ks : List Nat) {k : Nat} (h : k < 26) (hc : ks.contains k = true) : ∃ h' : cnt ks k < (srt ks).length, (srt ks)[cnt ks k] = k := by
  obtain ⟨r, hr⟩ := srt_split ks h
  rw [hc, if_pos rfl] at hr
  have hl : cnt ks k < (srt ks).length := by rw [hr]; unfold cnt; simp
  refine ⟨hl, ?_⟩
  have : (srt ks)[cnt ks k]? = some k := by
    rw [hr]
    unfold cnt
    rw [List.getElem?_append_right (Nat.le_refl _), Nat.sub_self]
    rfl
  rw [List.getElem?_eq_getElem hl] at this
  injection this
theorem cnt_succ (ks : List Nat) (k : Nat) : cnt ks (k + 1) = cnt ks k + if ks.contains k then 1 else 0 := by
  unfold cnt
  rw [List.range_succ, List.filter_append, List.length_append]
  congr 1
  rw [List.filter_cons]
  split <;> simp_all
theorem cnt_le (ks : List Nat) (k : Nat) : cnt ks k ≤ k := by
  unfold cnt
  have := List.length_filter_le (fun j => ks.contains j) (List.range k)
  simpa using this
theorem srt_perm {ks : List Nat} (hn : ks.Nodup) (hk : ∀ x ∈ ks, x < 26) : (srt ks).Perm ks := by
  refine (List.perm_ext_iff_of_nodup (List.Pairwise.filter _ List.nodup_range) hn).2 (fun a => ?_)
  rw [List.mem_filter]
  simp only [List.mem_range, List.contains_eq_mem, decide_eq_true_eq]
  exact ⟨fun h => h.2, fun h => ⟨hk a h, h⟩⟩
theorem funs_K {ks : List Nat} (hn : ks.Nodup) (hk : ∀ x ∈ ks, x < 26) {l : List Fn} (hp : l.Perm (tyK ks)) (hs : l.Pairwise (fun f h => ¬ h.nm.data.toList < f.nm.data.toList)) : l = (srt ks).map fnK := by
  have hp2 : ((srt ks).map fnK).Perm (tyK ks) := (srt_perm hn hk).map fnK
  have hlt : ∀ x ∈ srt ks, x < 26 := fun x hx => by
    unfold srt at hx
    rw [List.mem_filter, List.mem_range] at hx
    exact hx.1
  have hs2 : ((srt ks).map fnK).Pairwise (fun f h => ¬ h.nm.data.toList < f.nm.data.toList) := by
    rw [List.pairwise_map]
    have h1 : (srt ks).Pairwise (· < ·) := List.Pairwise.filter _ List.pairwise_lt_range
    refine List.Pairwise.imp_of_mem (fun {a b} ha hb h => ?_) h1
    have := nmK_lt b (hlt b hb) a (hlt a ha)
    have h2 : decide (b < a) = false := decide_eq_false (by omega)
    rw [h2] at this
    simpa [fnK] using this
  refine List.Perm.eq_of_pairwise (fun a b ha hb h1 h2 => ?_) hs hs2 (hp.trans hp2.symm)
  have ha' := hp.mem_iff.1 ha
  obtain ⟨x, hx, rfl⟩ := List.mem_map.1 ha'
  obtain ⟨y, hy, rfl⟩ := List.mem_map.1 hb
  have l1 := nmK_lt y (hlt y hy) x (hk x hx)
  have l2 := nmK_lt x (hk x hx) y (hlt y hy)
  have e1 : decide ((nmK y).data.toList < (nmK x).data.toList) = false := decide_eq_false h1
  have e2 : decide ((nmK x).data.toList < (nmK y).data.toList) = false := decide_eq_false h2
  rw [e1] at l1
  rw [e2] at l2
  have : x = y := by
    have a1 := of_decide_eq_false l1.symm
    have a2 := of_decide_eq_false l2.symm
    omega
  rw [this]

theorem i64_remS (t : TypeId) (x y : Nat) (hy : 0 < y) : binOp .rem t (.int .i64 (x : Int)) (.int .i64 (y : Int)) = pure (.int .i64 ((x % y : Nat) : Int)) := by
  show Op.intDiv .rem .i64 (x : Int) (y : Int) = _
  unfold Op.intDiv
  rw [if_neg (by omega)]
  rw [IntWalk.rem_in _ _ (by omega)]; simp
theorem kc_letter (W : World) (k : Nat) (hk : k < 100) : (convert 59 9 (.slice (some ⟨W.heap.size, 0, none⟩) 1 1)).run Try.prog (W.alloc (.cells #[.int .u8 (97 + (k : Int))] 5)) =
    .ok (.string (nmK k)) (W.alloc (.cells #[.int .u8 (97 + (k : Int))] 5)) := by
  refine run_convert_bytes_back (P := Try.prog) (W.alloc (.cells #[.int .u8 (97 + (k : Int))] 5)) 59 9 5 ⟨W.heap.size, 0, none⟩ 1 [UInt8.ofNat (97 + k)] Try.underlying59 Try.underlying5 Try.underlying9 ?_
  intro j hj
  obtain rfl : j = 0 := by simp at hj; omega
  rw [show (⟨W.heap.size, 0, none⟩ : Addr).add 0 = ⟨W.heap.size, 0, none⟩ by rfl, cell_of_row (W.alloc (.cells #[.int .u8 (97 + (k : Int))] 5)) W.heap.size 0 _ _ (0, 0) (heap_alloc_new W _)]
  have : (97 + k) % 256 = 97 + k := Nat.mod_eq_of_lt (by omega)
  simp [this]
end Nt
end Go.Proofs.Ytlcgdiciiibeeaa
