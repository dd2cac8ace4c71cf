/-
  The reference's sorts: found, declared.
-/
import Derived.Test.YtlcgdiciiibeeaaRa
namespace Go.Proofs.Ytlcgdiciiibeeaa
open Go.ChangeShapes Go.RowKit
namespace Nt
set_option maxRecDepth 100000
set_option linter.unusedSimpArgs false
set_option linter.unusedVariables false

theorem ixB_first {es : List (ByteArray × Nat)} {s : ByteArray} {k : Nat} (hk : k < es.length) (he : es[k].1.data.toList = s.data.toList) (hno : ∀ j (h : j < k) (h2 : j < es.length), es[j].1.data.toList ≠ s.data.toList) : ixB es s = k ∧ hasB es s = true := by
  refine ⟨?_, ?_⟩
  · unfold ixB
    rw [List.findIdx_eq hk]
    refine ⟨by simpa using he, fun j hj => ?_⟩
    simpa using hno j hj (by omega)
  · unfold hasB
    rw [List.any_eq_true]
    exact ⟨es[k], List.getElem_mem hk, by rw [he]; exact beq_self_eq_true _⟩
theorem hasB_none {es : List (ByteArray × Nat)} {s : ByteArray} (hno : ∀ j (h2 : j < es.length), es[j].1.data.toList ≠ s.data.toList) : hasB es s = false := by
  unfold hasB
  rw [List.any_eq_false]
  intro e he
  obtain ⟨j, hj, rfl⟩ := List.getElem_of_mem he
  simpa using hno j hj
theorem reserved_names {s : ByteArray} (h : nameB s = true) : s.data.toList ≠ lBool ∧ s.data.toList ≠ lReal := by
  simp only [nameB, Bool.and_eq_true, Bool.not_eq_true'] at h
  have hr := h.2
  constructor
  · intro e
    unfold resB at hr
    rw [e] at hr
    revert hr; decide
  · intro e
    unfold resB at hr
    rw [e] at hr
    revert hr; decide

section
variable {Z R : List Nat} {w w' : World} {r : Nat} {fs : List Fn} {L : List (Nat × Nat)} {AN : Option Addr} {cN : Nat} {AF : Option Addr} {cF : Nat} {vL : Value} {so : List (ByteArray × Nat)}
set_option maxHeartbeats 2000000 in
theorem ref_fsort (h : RfP Z w r R (so.map Prod.fst) fs L AN cN AF cF vL) (hn : so.length ≤ 1000) (s : ByteArray) :
    Calls Try.prog 22 #[.pointer (some ⟨r, 0, none⟩), .string s] w fun e w' => e = .returned (.tuple #[.int .i64 (fsI so s), .bool (fsB so s)]) ∧ w = w' := by
  have a0 : w.cell? ⟨r, 0, none⟩ = some (.slice AN so.length cN) := by
    have : w.cell? ⟨r, 0, none⟩ = some (.slice AN (so.map Prod.fst).length cN) := h.bk.cell rfl
    rwa [List.length_map] at this
  have hrd : ∀ k (hk : k < so.length), ∃ b o, AN = some ⟨b, o, none⟩ ∧ w.cell? ⟨b, o + k, none⟩ = some (.string so[k].1) := fun k hk => h.rN.get (by simp [hk])
  replace hrd := hide hrd
  clear h
  by_cases hb : s.data.toList = lBool
  · have e1 : binOp .eql 9 (.string s) (.string ⟨#[66, 111, 111, 108]⟩) = pure (.bool true) := by rw [eql_s, hb]; rfl
    have r1 : fsI so s = 0 := by simp [fsI, hb]
    have r2 : fsB so s = true := by simp [fsB, hb]
    rw [r1, r2]
    clear hb r1 r2
    go_enter Try.func22, Try.ntmps22
    go_wp2
    go_ret2
    exact ⟨rfl, rfl⟩
  · have e1 : binOp .eql 9 (.string s) (.string ⟨#[66, 111, 111, 108]⟩) = pure (.bool false) := by rw [eql_s]; exact congrArg (fun b => pure (Value.bool b)) (beq_eq_false_iff_ne.2 hb)
    by_cases hr : s.data.toList = lReal
    · have e2 : binOp .eql 9 (.string s) (.string ⟨#[82, 101, 97, 108]⟩) = pure (.bool true) := by rw [eql_s, hr]; rfl
      have r1 : fsI so s = 1 := by simp [fsI, hb, hr]; rintro ⟨⟩
      have r2 : fsB so s = true := by simp [fsB, hr]
      rw [r1, r2]
      clear hb hr r1 r2
      go_enter Try.func22, Try.ntmps22
      go_wp2
      go_ret2
      exact ⟨rfl, rfl⟩
    · have e2 : binOp .eql 9 (.string s) (.string ⟨#[82, 101, 97, 108]⟩) = pure (.bool false) := by rw [eql_s]; exact congrArg (fun b => pure (Value.bool b)) (beq_eq_false_iff_ne.2 hr)
      have hyes : ∀ k (hk : k < so.length), so[k].1.data.toList = s.data.toList → (∀ j (h : j < k) (h2 : j < so.length), so[j].1.data.toList ≠ s.data.toList) → fsI so s = (k : Int) + 2 ∧ fsB so s = true := by
        intro k hk he hno
        obtain ⟨q1, q2⟩ := ixB_first hk he hno
        exact ⟨by simp [fsI, hb, hr, q2, q1], by simp [fsB, q2]⟩
      have hnone : (∀ j (h2 : j < so.length), so[j].1.data.toList ≠ s.data.toList) → fsI so s = 0 ∧ fsB so s = false := by
        intro hno
        have q2 := hasB_none hno
        exact ⟨by simp [fsI, hb, hr, q2], by simp [fsB, hb, hr, q2]⟩
      obtain ⟨x, hx⟩ : ∃ x, x = fsI so s := ⟨_, rfl⟩
      obtain ⟨y, hy⟩ : ∃ y, y = fsB so s := ⟨_, rfl⟩
      rw [← hx, ← hy]
      rw [← hx, ← hy] at hyes hnone
      replace hyes := hide hyes; replace hnone := hide hnone
      clear hb hr hx hy
      have e3 : ∀ b : ByteArray, binOp .eql 9 (.string b) (.string s) = pure (.bool (b.data.toList == s.data.toList)) := fun b => eql_s _ b s
      replace e3 := hide e3
      obtain ⟨n, hn'⟩ : ∃ n, n = so.length := ⟨_, rfl⟩
      rw [← hn'] at a0 hn
      replace hn' := hide hn'
      go_enter Try.func22, Try.ntmps22
      go_wp2
      go_loop [6] (fun i => ∃ k : Nat, k ≤ n ∧ i = .int .i64 (k : Int) ∧ ∀ j (h : j < k) (h2 : j < so.length), so[j].1.data.toList ≠ s.data.toList) (fun i => n - (intOf i).toNat)
      case atStart => exact ⟨0, Nat.zero_le _, rfl, by intro j hj; omega⟩
      case round =>
        obtain ⟨k, hk, rfl, hno⟩ := hrel
        by_cases hkn : k < n
        · have hkl : k < so.length := by rw [← hn'.out]; exact hkn
          obtain ⟨b, o, rfl, c0⟩ := hrd.out k hkl
          have e4 := e3.out so[k].1
          by_cases he : so[k].1.data.toList = s.data.toList
          · obtain ⟨rfl, rfl⟩ := hyes.out k hkl he hno
            rw [he, beq_self_eq_true] at e4
            replace he := hide he
            replace hno := hide hno
            generalize so[k].1 = nmk at *
            go_wp2
            go_ret2
            exact ⟨rfl, rfl⟩
          · rw [beq_eq_false_iff_ne.2 he] at e4
            have hno2 := hide (show ∀ j (h : j < k + 1) (h2 : j < so.length), so[j].1.data.toList ≠ s.data.toList from fun j hj h2 => by
              by_cases e : j = k
              · subst e; exact he
              · exact hno j (by omega) h2)
            replace he := hide he
            clear hno
            generalize so[k].1 = nmk at *
            go_wp2
            go_round
            case rel => exact ⟨k + 1, by omega, by go_num, hno2.out⟩
            case measure => simp [intOf]; omega
        · obtain ⟨rfl, rfl⟩ := hnone.out (fun j h2 => hno j (by have := hn'.out; omega) h2)
          have hkd : decide (k < n) = false := decide_eq_false hkn
          clear hno
          go_wp2
          go_ret2
          exact ⟨rfl, rfl⟩
end

/-- An append onto an empty slice that was just built, and one element more. -/
theorem app_fresh {t e : TypeId} {z : Value} {size bytes : Nat} (hinf : ∃ i : TypeInfo, Try.prog.info? e = some i ∧ i.zero = some z ∧ i.size = size ∧ i.bytes = bytes) (ht : Try.prog.underlying t = some (.slice e)) (hzs : z.cells.size = size) (hsz : 0 < size) (w : World)
    (A : Option Addr) (m c : Nat) (news : List Value) (Z : List Nat) (hl : news.length = m * size) (hR : Rv Z w A news) (hone : ∀ u ∈ news, u.oneCell' = true) (hm : m ≤ 10000) (hb : bytes ≤ 1000) (hform : A = none → c = 0) :
    ∃ v1 w2, (∀ ty, (Builtin.append_ #[t, t] ty #[.slice (some ⟨w.heap.size, 0, none⟩) 0 0, .slice A m c]).run Try.prog (w.alloc (.cells #[] e)) = .ok v1 w2) ∧ Below w.heap.size w w2 ∧
      ∀ (w2' : World) (x : List Value), Below w2.heap.size w2 w2' → x.length = size → (∀ u ∈ x, u.oneCell' = true) → ∃ g c3 w3, (∀ ty, (Builtin.append_ #[t, t] ty #[v1, .slice (some ⟨w2'.heap.size, 0, none⟩) 1 1]).run Try.prog (w2'.alloc (.cells x.toArray e)) = .ok (.slice (some ⟨g, 0, none⟩) (m + 1) c3) w3) ∧
        w3.ownsRow 0 e size (.slice (some ⟨g, 0, none⟩) (m + 1) c3) (m + 1) (news ++ x) ∧ Below w.heap.size w w3 ∧ w.heap.size ≤ g := by
  have hb0 : Below w.heap.size w (w.alloc (.cells #[] e)) := (Below.refl _ _).alloc (Nat.le_refl _) _
  have hR0 : Rv [] (w.alloc (.cells #[] e)) A news := hR.off (Off.of_below hb0 []) (by simp) (by simp)
  obtain ⟨v1, w2, r1, k1, k2, k3⟩ := app_row hinf ht hzs hsz (w.alloc (.cells #[] e)) (.slice (some ⟨w.heap.size, 0, none⟩) 0 0) 0 [] (row_empty w e size) A m c news [] hl hR0 hone (by omega) hb hform
  rw [Nat.zero_add, List.nil_append] at k1
  have hz1 : (w.alloc (.cells #[] e)).heap.size = w.heap.size + 1 := by simp
  have hv1 : ∀ b, v1.ownBlock = some b → w.heap.size ≤ b := fun b hb => by
    rcases k3 b hb with h | h
    · simp [Value.ownBlock] at h; omega
    · omega
  have hb2 : Below w.heap.size w w2 := hb0.trans (k2.below (by omega) (by intro b hb; simp [Value.ownBlock] at hb; omega))
  refine ⟨v1, w2, r1, hb2, fun w2' x hb' hxl hxo => ?_⟩
  have hX : Bk w2'.heap.size x.toArray e (w2'.alloc (.cells x.toArray e)) := Bk.new _ _ _
  have hbA : Below w2'.heap.size w2' (w2'.alloc (.cells x.toArray e)) := (Below.refl _ _).alloc (Nat.le_refl _) _
  have hRx : Rv [] (w2'.alloc (.cells x.toArray e)) (some ⟨w2'.heap.size, 0, none⟩) x := .inr ⟨_, 0, rfl, hX.lt, by simp, fun j u hj => by rw [Nat.zero_add]; exact hX.cell (by rw [← Array.getElem?_toList]; exact hj)⟩
  have hrow : (w2'.alloc (.cells x.toArray e)).ownsRow 0 e size v1 m news := (Off.row k1 (Off.of_below hb' []) (by simp)).alloc _
  obtain ⟨v3, w3, r3, q1, q2, q3⟩ := app_row hinf ht hzs hsz _ v1 m news hrow (some ⟨w2'.heap.size, 0, none⟩) 1 1 x [] (by omega) hRx hxo (by omega) hb (by simp)
  have hv3 : ∃ g c3, v3 = .slice (some ⟨g, 0, none⟩) (m + 1) c3 := by
    rcases q1.2 with ⟨_, h⟩ | ⟨g, cap, cur, rfl, _⟩
    · omega
    · exact ⟨g, cap, rfl⟩
  obtain ⟨g, c3, rfl⟩ := hv3
  have hs2 := hb2.size
  have hs2' := hb'.size
  refine ⟨g, c3, w3, r3, q1, ?_, ?_⟩
  · have h1 : Below w.heap.size w (w2'.alloc (.cells x.toArray e)) := (hb2.trans (hb'.mono hs2)).trans (hbA.mono (by omega))
    exact h1.trans (q2.below h1.size (fun b hb => hv1 b (by rwa [Option.mem_toList] at hb)))
  · rcases q3 g rfl with h | h
    · exact hv1 g h
    · have hz3 : (w2'.alloc (.cells x.toArray e)).heap.size = w2'.heap.size + 1 := by simp
      omega

section
variable {Z R : List Nat} {w w' w3 : World} {r : Nat} {nm : List ByteArray} {fs : List Fn} {L : List (Nat × Nat)} {AN : Option Addr} {cN : Nat} {AF : Option Addr} {cF : Nat} {vL : Value} {so : List (ByteArray × Nat)}
/-- The names are others. -/
theorem rf_names (h : RfP Z w r R nm fs L AN cN AF cF vL) (hZ : ∀ b ∈ Z, b < w.heap.size) (hb : Below w.heap.size w w3) {g c3 : Nat} {nm' : List ByteArray} (hrow : w3.ownsRow 0 9 1 (.slice (some ⟨g, 0, none⟩) nm'.length c3) nm'.length (nm'.map Value.string)) (hg : w.heap.size ≤ g) :
    RfP Z (w3.setCell ⟨r, 0, none⟩ (.slice (some ⟨g, 0, none⟩) nm'.length c3)) r R nm' fs L (some ⟨g, 0, none⟩) c3 AF cF vL ∧ Off R w (w3.setCell ⟨r, 0, none⟩ (.slice (some ⟨g, 0, none⟩) nm'.length c3)) ∧ w3.cell? ⟨r, 0, none⟩ = some (.slice AN nm.length cN) ∧ w3.frozen? ⟨r, 0, none⟩ = false := by
  have h3 := h.next hb
  have hO : Off [r] w3 (w3.setCell ⟨r, 0, none⟩ (.slice (some ⟨g, 0, none⟩) nm'.length c3)) := (Off.refl _ _).setCell _ _ (.inl (by simp))
  have hrR : r ∈ R := by rw [h.eR]; simp
  have hgn : g ∉ R ++ Z := fun hm => (List.mem_append.1 hm).elim (fun h' => Nat.not_lt.2 hg (h.lt g h')) (fun h' => Nat.not_lt.2 hg (hZ g h'))
  have hsub : ∀ b ∈ [r], b ∈ R ++ Z ∨ w3.heap.size ≤ b := by intro b hb; simp at hb; subst hb; exact .inl (List.mem_append_left _ hrR)
  obtain ⟨vs, f1, f2⟩ := h3.rF
  have hcap : nm'.length ≤ c3 ∧ c3 ≤ maxLen := by
    rcases hrow.2 with ⟨e, _⟩ | ⟨_, cap, cur, e, _, _, q1, q2, _⟩
    · cases e
    · cases e; exact ⟨q1, q2⟩
  have hvr : ∀ k, vL.ownBlock = some k → k ∉ [r] := fun k hk hm => by
    have := h.once
    rw [h.eR, List.nodup_cons] at this
    simp at hm
    subst hm
    exact this.1 (by rw [Option.mem_toList]; exact hk)
  refine ⟨⟨h3.bk.set _ rfl, ⟨hcap.1, hcap.2, by simp⟩, h3.nF, (Rv.of_row hrow (fun k hk => by cases hk; exact hgn)).off hO hsub (fun b hb => .inl hb), ⟨vs, f1.off hO hsub (fun b hb => .inl hb), f2.off hO hsub (fun b hb => .inl hb)⟩, Off.row h3.rL hO hvr, h.eR, h.once, h.ap⟩, ?_, h3.bk.cell rfl, h3.bk.free 0⟩
  exact ((Off.of_below hb R)).trans (hO.more (T' := R) (by intro b hb; simp at hb; subst hb; exact hrR)) (fun b hb => .inl hb)

set_option maxHeartbeats 2000000 in
theorem ref_sort_no (h : RfP Z w r R (so.map Prod.fst) fs L AN cN AF cF vL) (hn : so.length ≤ 1000) (s : ByteArray) (hs : s.size ≤ 9223372036854775807) (hf : freeB so s = false) :
    Calls Try.prog 11 #[.pointer (some ⟨r, 0, none⟩), .string s] w fun e w' => e = .returned (.tuple #[.int .i64 0, .int .i64 1]) ∧ Below w.heap.size w w' := by
  have h1 := ref_fsort h hn s
  have h2 := ref_name s hs w
  cases hnm : nameB s
  · rw [hnm] at h2
    generalize fsB so s = y at *
    generalize fsI so s = x at *
    clear h hf hnm
    go_enter Try.func11, Try.ntmps11
    go_wp2_with first
      | (go_at_call 22; (with_reducible refine h1.mono ?_); rintro e w1 ⟨rfl, rfl⟩)
      | (go_at_call 36; (with_reducible refine h2.mono ?_); rintro e w2 ⟨rfl, hb⟩)
    go_ret2
    exact ⟨rfl, hb⟩
  · have hfb : fsB so s = true := by
      unfold freeB at hf
      rw [hnm, Bool.true_and, Bool.not_eq_false'] at hf
      simp [fsB, hf]
    rw [hnm] at h2
    rw [hfb] at h1
    generalize fsI so s = x at *
    clear h hf hnm hfb
    go_enter Try.func11, Try.ntmps11
    go_wp2_with first
      | (go_at_call 22; (with_reducible refine h1.mono ?_); rintro e w1 ⟨rfl, rfl⟩)
      | (go_at_call 36; (with_reducible refine h2.mono ?_); rintro e w2 ⟨rfl, hb⟩)
    go_ret2
    exact ⟨rfl, hb⟩

set_option maxHeartbeats 2000000 in
theorem ref_sort (h : RfP Z w r R (so.map Prod.fst) fs L AN cN AF cF vL) (hZ : ∀ b ∈ Z, b < w.heap.size) (hn : so.length ≤ 1000) (s : ByteArray) (hs : s.size ≤ 9223372036854775807) (hf : freeB so s = true) :
    Calls Try.prog 11 #[.pointer (some ⟨r, 0, none⟩), .string s] w fun e w' => e = .returned (.tuple #[.int .i64 ((so.length : Int) + 2), .int .i64 0]) ∧ (∃ AN' cN', RfP Z w' r R (so.map Prod.fst ++ [s]) fs L AN' cN' AF cF vL) ∧ Off R w w' := by
  have h1 := ref_fsort h hn s
  have h2 := ref_name s hs w
  have hnm : nameB s = true := by
    simp only [freeB, Bool.and_eq_true] at hf; exact hf.1
  have hfb : fsB so s = false := by
    obtain ⟨q1, q2⟩ := reserved_names hnm
    unfold freeB at hf
    rw [hnm, Bool.true_and, Bool.not_eq_true'] at hf
    simp [fsB, hf, q1, q2]
  rw [hnm] at h2
  rw [hfb] at h1
  obtain ⟨n, hn'⟩ : ∃ n, n = so.length := ⟨_, rfl⟩
  have hkey : ∀ w1, Below w.heap.size w w1 → (w1.alloc (.cells #[] 9)).cell? ⟨r, 0, none⟩ = some (.slice AN n cN) ∧ ∃ v1 w2, (∀ ty, (Builtin.append_ #[28, 28] ty #[.slice (some ⟨w1.heap.size, 0, none⟩) 0 0, .slice AN n cN]).run Try.prog (w1.alloc (.cells #[] 9)) = .ok v1 w2) ∧
      ∃ g c3 w3, (∀ ty, (Builtin.append_ #[28, 28] ty #[v1, .slice (some ⟨w2.heap.size, 0, none⟩) 1 1]).run Try.prog (w2.alloc (.cells #[.string s] 9)) = .ok (.slice (some ⟨g, 0, none⟩) (n + 1) c3) w3) ∧ w3.cell? ⟨r, 0, none⟩ = some (.slice AN n cN) ∧ w3.frozen? ⟨r, 0, none⟩ = false ∧
        RfP Z (w3.setCell ⟨r, 0, none⟩ (.slice (some ⟨g, 0, none⟩) (n + 1) c3)) r R (so.map Prod.fst ++ [s]) fs L (some ⟨g, 0, none⟩) c3 AF cF vL ∧ Off R w (w3.setCell ⟨r, 0, none⟩ (.slice (some ⟨g, 0, none⟩) (n + 1) c3)) := by
    intro w1 hb1
    have hp := h.next hb1
    have hZ1 : ∀ b ∈ Z, b < w1.heap.size := fun b hb => Nat.lt_of_lt_of_le (hZ b hb) hb1.size
    have hln : (so.map Prod.fst).length = n := by rw [List.length_map, hn']
    have a0 : w1.cell? ⟨r, 0, none⟩ = some (.slice AN (so.map Prod.fst).length cN) := hp.bk.cell rfl
    rw [hln] at a0
    obtain ⟨v1, w2, r1, b2, hx⟩ := app_fresh infS Try.underlying28 rfl (by decide) w1 AN n cN ((so.map Prod.fst).map Value.string) (R ++ Z) (by rw [List.length_map, hln, Nat.mul_one]) hp.rN (by intro u hu; simp at hu; obtain ⟨a, _, rfl⟩ := hu; rfl) (by omega) (by decide) h.nN.2.2
    obtain ⟨g, c3, w3, r3, q1, q2, q3⟩ := hx w2 [.string s] (.refl _ _) rfl (by intro u hu; simp at hu; subst hu; rfl)
    have hlen2 : (so.map Prod.fst ++ [s]).length = n + 1 := by rw [List.length_append, hln]; rfl
    have hrow : w3.ownsRow 0 9 1 (.slice (some ⟨g, 0, none⟩) (so.map Prod.fst ++ [s]).length c3) (so.map Prod.fst ++ [s]).length ((so.map Prod.fst ++ [s]).map Value.string) := by
      rw [hlen2, List.map_append]; exact q1
    obtain ⟨f1, f2, f3, f4⟩ := rf_names hp hZ1 q2 hrow q3
    rw [hlen2] at f1 f2
    rw [hln] at f3
    exact ⟨cell_al a0 _, v1, w2, r1, g, c3, w3, r3, f3, f4, f1, (Off.of_below hb1 R).trans f2 (fun b hb => .inl hb)⟩
  rw [← hn'] at hn ⊢
  replace hn' := hide hn'
  replace hkey := hide hkey
  generalize fsI so s = x at *
  clear h hf hnm hfb hZ
  go_enter Try.func11, Try.ntmps11
  go_wp2_with first
    | (go_at_call 22; (with_reducible refine h1.mono ?_); rintro e w1 ⟨rfl, rfl⟩)
    | (go_at_call 36; (with_reducible refine h2.mono ?_); rintro e w2 ⟨rfl, hb⟩; obtain ⟨a0, v1, w3, r1, g, c3, w4, r3, a3, f3, hfin⟩ := hkey.out w2 hb; replace hfin := hide hfin; clear hb)
    | (at_builtin; refine wpList_append_run _ rfl _ _ _ rfl _ _ _ _ rfl rfl r1 ?_)
    | (at_builtin; refine wpList_append_run _ rfl _ _ _ rfl _ _ _ _ rfl rfl r3 ?_)
  go_ret2
  exact ⟨rfl, ⟨_, _, hfin.out.1⟩, hfin.out.2⟩
end
end Nt
end Go.Proofs.Ytlcgdiciiibeeaa
