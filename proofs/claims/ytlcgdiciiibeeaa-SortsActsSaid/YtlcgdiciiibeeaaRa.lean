/-
  The reference's declarations (theodoliteref6.Sorts) in memory; its small functions.
-/
import Derived.Test.YtlcgdiciiibeeaaSd
namespace Go.Proofs.Ytlcgdiciiibeeaa
open Go.ChangeShapes Go.RowKit
namespace Nt
set_option maxRecDepth 100000
set_option linter.unusedSimpArgs false
set_option linter.unusedVariables false

/-- A row that nothing writes: it lies outside Z. -/
def Rv (Z : List Nat) (w : World) (A : Option Addr) (vs : List Value) : Prop := vs = [] ∨ ∃ b o, A = some ⟨b, o, none⟩ ∧ b < w.heap.size ∧ b ∉ Z ∧ ∀ j u, vs[j]? = some u → w.cell? ⟨b, o + j, none⟩ = some u
theorem Rv.off {Z S Z' : List Nat} {w w' : World} {A : Option Addr} {vs : List Value} (h : Rv Z w A vs) (hf : Off S w w') (hS : ∀ b ∈ S, b ∈ Z ∨ w.heap.size ≤ b) (hZ : ∀ b ∈ Z', b ∈ Z ∨ w.heap.size ≤ b) : Rv Z' w' A vs := by
  rcases h with h | ⟨b, o, rfl, hb, hn, hc⟩
  · exact .inl h
  · refine .inr ⟨b, o, rfl, Nat.lt_of_lt_of_le hb hf.size, fun hm => (hZ b hm).elim hn (fun hle => Nat.not_lt.2 hle hb), fun j u hj => ?_⟩
    exact hf.cell (a := ⟨b, o + j, none⟩) (hc j u hj) hb (fun hm => (hS b hm).elim hn (fun hle => Nat.not_lt.2 hle hb))
theorem Rv.take {Z : List Nat} {w : World} {A : Option Addr} {vs : List Value} (h : Rv Z w A vs) (k : Nat) : Rv Z w A (vs.take k) := by
  rcases h with h | ⟨b, o, h1, h2, h3, h4⟩
  · exact .inl (by rw [h]; simp)
  · refine .inr ⟨b, o, h1, h2, h3, fun j u hj => h4 j u ?_⟩
    rw [List.getElem?_take] at hj
    split at hj
    · exact hj
    · cases hj
theorem Rv.of_row {Z : List Nat} {w : World} {base e size n cap : Nat} {A : Option Addr} {xs : List Value} (h : w.ownsRow base e size (.slice A n cap) n xs) (hZ : ∀ k, (Value.slice A n cap).ownBlock = some k → k ∉ Z) : Rv Z w A xs := by
  rcases h.2 with ⟨e, h0⟩ | ⟨g, c, cu, e, _, hg, _⟩
  · subst h0
    exact .inl (List.eq_nil_of_length_eq_zero (by rw [h.1]; simp))
  · cases e
    refine .inr ⟨g, 0, rfl, (Array.getElem?_eq_some_iff.1 hg).1, hZ g rfl, fun j u hj => ?_⟩
    have := h.cells (g := g) rfl j u hj
    rwa [Addr.add_lit] at this
theorem Rv.get {Z : List Nat} {w : World} {A : Option Addr} {vs : List Value} (h : Rv Z w A vs) {j : Nat} {u : Value} (hj : vs[j]? = some u) : ∃ b o, A = some ⟨b, o, none⟩ ∧ w.cell? ⟨b, o + j, none⟩ = some u := by
  rcases h with h | ⟨b, o, h1, h2, h3, h4⟩
  · rw [h] at hj; simp at hj
  · exact ⟨b, o, h1, h4 j u hj⟩

/-- An append of a row that is read. -/
theorem app_row {t e : TypeId} {z : Value} {size bytes : Nat} (hinf : ∃ i : TypeInfo, Try.prog.info? e = some i ∧ i.zero = some z ∧ i.size = size ∧ i.bytes = bytes) (ht : Try.prog.underlying t = some (.slice e)) (hzs : z.cells.size = size) (hsz : 0 < size) (w : World) (v : Value) (n : Nat) (xs : List Value) (hrow : w.ownsRow 0 e size v n xs)
    (A : Option Addr) (m c : Nat) (news : List Value) (Z : List Nat) (hl : news.length = m * size) (hR : Rv Z w A news) (hone : ∀ u ∈ news, u.oneCell' = true) (hm : n + m ≤ 100000) (hb : bytes ≤ 1000) (hform : A = none → c = 0) :
    ∃ v' w', (∀ ty, (Builtin.append_ #[t, t] ty #[v, .slice A m c]).run Try.prog w = .ok v' w') ∧ w'.ownsRow 0 e size v' (n + m) (xs ++ news) ∧ Off v.ownBlock.toList w w' ∧ ∀ b, v'.ownBlock = some b → v.ownBlock = some b ∨ w.heap.size ≤ b := by
  obtain ⟨i, hi, hz, h1, h8⟩ := hinf
  have hbound : (n + m) * bytes ≤ 140737488355328 := Nat.le_trans (Nat.mul_le_mul hm hb) (by decide)
  have main : ∀ a : Addr, (∀ j u, news[j]? = some u → w.cell? (a.add j) = some u) → A = some a → _ := fun a hc hA => run_append_own_at (P := Try.prog) w 0 t 0 e i z size bytes ht hi hz h1 h8 hzs hsz v n xs hrow a m c news hl hc hone (by unfold maxLen; omega) hbound (Nat.zero_le _)
  have fin : ∀ a : Addr, (∀ j u, news[j]? = some u → w.cell? (a.add j) = some u) → A = some a → ∃ v' w', (∀ ty, (Builtin.append_ #[t, t] ty #[v, .slice A m c]).run Try.prog w = .ok v' w') ∧ w'.ownsRow 0 e size v' (n + m) (xs ++ news) ∧ Off v.ownBlock.toList w w' ∧ ∀ b, v'.ownBlock = some b → v.ownBlock = some b ∨ w.heap.size ≤ b := by
    intro a hc hA
    obtain ⟨v', w', hr, k2, k3, k4, k5⟩ := main a hc hA
    subst hA
    refine ⟨v', w', fun ty => hr, k2, Off.of_grown (T := v.ownBlock.toList) k3 (fun k hk => .inl (by simp [hk])), fun b hb => ?_⟩
    rcases k5 with k5 | k5
    · exact .inl (k5 ▸ hb)
    · rw [k5] at hb
      injection hb with hb
      exact .inr (by omega)
  rcases hR with h0 | ⟨b, o, rfl, _, _, hc⟩
  · subst h0
    have hm0 : m = 0 := by
      have : m * size = 0 := by simpa using hl.symm
      rcases Nat.mul_eq_zero.1 this with h | h
      · exact h
      · omega
    subst hm0
    cases A with
    | some a => exact fin a (by simp) rfl
    | none =>
      obtain rfl := hform rfl
      refine ⟨v, w, fun ty => ?_, by simpa using hrow, .refl _ _, fun b hb => .inl hb⟩
      rcases hrow.2 with ⟨rfl, _⟩ | ⟨g, cap, cur, rfl, _, _, hnc, _⟩
      · simp [Builtin.append_, run_underlying ht, sizeOf, typeInfo, hi, Builtin.lenOf, Builtin.firstCells, loadCells, loadCellsFrom]
      · simp [Builtin.append_, run_underlying ht, sizeOf, typeInfo, hi, Builtin.lenOf, Builtin.firstCells, loadCells, loadCellsFrom, hnc, storeCells]
  · refine fin ⟨b, o, none⟩ (fun j u hj => ?_) rfl
    rw [Addr.add_lit]
    exact hc j u hj

theorem infS : ∃ i : TypeInfo, Try.prog.info? 9 = some i ∧ i.zero = some (.string ⟨#[]⟩) ∧ i.size = 1 ∧ i.bytes = 16 := info_parts (P := Try.prog) (e := 9) (z := .string ⟨#[]⟩) (size := 1) (bytes := 16) (by kernel_rfl)
theorem infF : ∃ i : TypeInfo, Try.prog.info? 35 = some i ∧ i.zero = some (.agg #[.string ⟨#[]⟩, .slice none 0 0, .int .i64 0]) ∧ i.size = 3 ∧ i.bytes = 48 := info_parts (P := Try.prog) (e := 35) (z := .agg #[.string ⟨#[]⟩, .slice none 0 0, .int .i64 0]) (size := 3) (bytes := 48) (by kernel_rfl)
theorem infL : ∃ i : TypeInfo, Try.prog.info? 78 = some i ∧ i.zero = some (.agg #[.int .i64 0, .int .i64 0]) ∧ i.size = 2 ∧ i.bytes = 16 := info_parts (P := Try.prog) (e := 78) (z := .agg #[.int .i64 0, .int .i64 0]) (size := 2) (bytes := 16) (by kernel_rfl)
theorem infI : ∃ i : TypeInfo, Try.prog.info? 3 = some i ∧ i.zero = some (.int .i64 0) ∧ i.size = 1 ∧ i.bytes = 8 := info_parts (P := Try.prog) (e := 3) (z := .int .i64 0) (size := 1) (bytes := 8) (by kernel_rfl)
/-- An empty slice that was just built. -/
theorem row_empty (w : World) (e size : Nat) : (w.alloc (.cells #[] e)).ownsRow 0 e size (.slice (some ⟨w.heap.size, 0, none⟩) 0 0) 0 [] :=
  ⟨by simp, .inr ⟨w.heap.size, 0, #[], rfl, Nat.zero_le _, heap_alloc_new w _, Nat.le_refl _, Nat.zero_le _, by simp, by simp⟩⟩

/-- The cells of a list of levels. -/
def lcs (L : List (Nat × Nat)) : List Value := L.flatMap fun l => [.int .i64 (l.1 : Int), .int .i64 (l.2 : Int)]
/-- The reference's declarations. -/
structure RfP (Z : List Nat) (w : World) (r : Nat) (R : List Nat) (nm : List ByteArray) (fs : List Fn) (L : List (Nat × Nat)) (AN : Option Addr) (cN : Nat) (AF : Option Addr) (cF : Nat) (vL : Value) : Prop where
  bk : Bk r #[.slice AN nm.length cN, .slice AF fs.length cF, vL] 32 w
  nN : nm.length ≤ cN ∧ cN ≤ maxLen ∧ (AN = none → cN = 0)
  nF : fs.length ≤ cF ∧ cF ≤ maxLen ∧ (AF = none → cF = 0)
  rN : Rv (R ++ Z) w AN (nm.map Value.string)
  rF : ∃ vs, Rv (R ++ Z) w AF vs ∧ Fs (R ++ Z) w fs vs
  rL : w.ownsRow 0 78 2 vL L.length (lcs L)
  eR : R = r :: vL.ownBlock.toList
  once : R.Nodup
  ap : ∀ b ∈ Z, b ∉ R
def Rf (Z : List Nat) (w : World) (r : Nat) (R : List Nat) (nm : List ByteArray) (fs : List Fn) (L : List (Nat × Nat)) : Prop := ∃ AN cN AF cF vL, RfP Z w r R nm fs L AN cN AF cF vL
section
variable {Z R : List Nat} {w w' : World} {r : Nat} {nm : List ByteArray} {fs : List Fn} {L : List (Nat × Nat)} {AN : Option Addr} {cN : Nat} {AF : Option Addr} {cF : Nat} {vL : Value}
theorem RfP.lt (h : RfP Z w r R nm fs L AN cN AF cF vL) : ∀ b ∈ R, b < w.heap.size := by
  intro b hb
  rw [h.eR] at hb
  rcases List.mem_cons.1 hb with rfl | hb
  · exact h.bk.lt
  · rw [Option.mem_toList] at hb; exact row_lt h.rL hb
/-- Whoever writes in Z, or lays what is new. -/
theorem RfP.off {Z' S : List Nat} (h : RfP Z w r R nm fs L AN cN AF cF vL) (hO : Off S w w') (hS : ∀ b ∈ S, b ∈ Z ∨ w.heap.size ≤ b) (hZ : ∀ b ∈ Z', b ∈ Z ∨ w.heap.size ≤ b) : RfP Z' w' r R nm fs L AN cN AF cF vL := by
  have hd : ∀ b ∈ R, b ∉ S := fun b hb hm => (hS b hm).elim (fun hz => h.ap b hz hb) (fun hle => Nat.not_lt.2 hle (h.lt b hb))
  have hS' : ∀ b ∈ S, b ∈ R ++ Z ∨ w.heap.size ≤ b := fun b hb => (hS b hb).imp (List.mem_append_right _) id
  have hZ' : ∀ b ∈ R ++ Z', b ∈ R ++ Z ∨ w.heap.size ≤ b := fun b hb => (List.mem_append.1 hb).elim (fun h => .inl (List.mem_append_left _ h)) (fun h => (hZ b h).imp (List.mem_append_right _) id)
  have hR := h.eR
  obtain ⟨vs, h1, h2⟩ := h.rF
  exact ⟨h.bk.off hO (hd r (by rw [hR]; simp)), h.nN, h.nF, h.rN.off hO hS' hZ', ⟨vs, h1.off hO hS' hZ', h2.off hO hS' hZ'⟩, Off.row h.rL hO (fun k hk => hd k (by rw [hR]; simp [hk])), h.eR, h.once, fun b hb hm => (hZ b hb).elim (fun hz => h.ap b hz hm) (fun hle => Nat.not_lt.2 hle (h.lt b hm))⟩
theorem RfP.next (h : RfP Z w r R nm fs L AN cN AF cF vL) (hb : Below w.heap.size w w') : RfP Z w' r R nm fs L AN cN AF cF vL := h.off (Off.of_below hb []) (by simp) (fun b hb => .inl hb)

theorem ref_levels (h : RfP Z w r R nm fs L AN cN AF cF vL) :
    Calls Try.prog 28 #[.pointer (some ⟨r, 0, none⟩)] w fun e w' => e = .returned (.int .i64 (L.length : Int)) ∧ w = w' := by
  have hform : ∃ A c, vL = .slice A L.length c := by
    rcases h.rL.2 with ⟨e, h⟩ | ⟨g, cap, cu, e, _⟩
    · exact ⟨none, 0, by rw [e, h]⟩
    · exact ⟨_, _, e⟩
  obtain ⟨A, c, rfl⟩ := hform
  have a2 : w.cell? ⟨r, 2, none⟩ = some (.slice A L.length c) := h.bk.cell rfl
  clear h
  generalize L.length = n at *
  go_enter Try.func28, Try.ntmps28
  go_wp2
  go_ret
  exact ⟨rfl, rfl⟩

theorem ref_is (h : RfP Z w r R nm fs L AN cN AF cF vL) (hn : nm.length ≤ 1000000) (x : Int) :
    Calls Try.prog 39 #[.pointer (some ⟨r, 0, none⟩), .int .i64 x] w fun e w' => e = .returned (.bool (knownB nm.length x)) ∧ w = w' := by
  have a0 : w.cell? ⟨r, 0, none⟩ = some (.slice AN nm.length cN) := h.bk.cell rfl
  clear h
  have go : ∀ b, knownB nm.length x = b → Calls Try.prog 39 #[.pointer (some ⟨r, 0, none⟩), .int .i64 x] w fun e w' => e = .returned (.bool b) ∧ w = w' := by
    intro b hb
    by_cases h1 : 0 ≤ x
    · by_cases h2 : x < (nm.length : Int) + 2
      · have : b = true := by rw [← hb]; simp [knownB, h1, h2]
        subst this
        clear hb
        generalize nm.length = n at *
        go_enter Try.func39, Try.ntmps39
        go_wp2
        go_ret
        exact ⟨rfl, rfl⟩
      · have : b = false := by rw [← hb]; simp [knownB, h1, h2]
        subst this
        clear hb
        have h3 : decide (x < (nm.length : Int) + 2) = false := decide_eq_false h2
        generalize nm.length = n at *
        go_enter Try.func39, Try.ntmps39
        go_wp2
        go_ret
        exact ⟨rfl, rfl⟩
    · have : b = false := by rw [← hb]; simp [knownB, h1]
      subst this
      have h3 : decide (0 ≤ x) = false := decide_eq_false h1
      clear hb
      go_enter Try.func39, Try.ntmps39
      go_wp2
      go_ret
      exact ⟨rfl, rfl⟩
  exact go _ rfl
end

/-- The reference's words that mean something else. -/
def resS : List ByteArray := resL.map fun l => ⟨l.toArray⟩
set_option maxHeartbeats 4000000 in
theorem ref_reserved (s : ByteArray) (w : World) : Calls Try.prog 30 #[.string s] w fun e w' => e = .returned (.bool (resB s)) ∧ Below w.heap.size w w' := by
  have e1 : ∀ b : ByteArray, binOp .eql 9 (.string b) (.string s) = pure (.bool (b.data.toList == s.data.toList)) := fun b => eql_s _ b s
  obtain ⟨W, hW⟩ : ∃ W, W = w.alloc (.cells (resS.map Value.string).toArray 9) := ⟨_, rfl⟩
  have hbk : Bk w.heap.size (resS.map Value.string).toArray 9 W := by rw [hW]; exact Bk.new _ _ _
  have hbl : Below w.heap.size w W := by rw [hW]; exact (Below.refl _ _).alloc (Nat.le_refl _) _
  have hc : ∀ k (h : k < 27), ∃ b : ByteArray, W.cell? ⟨w.heap.size, k, none⟩ = some (.string b) ∧ b.data.toList = resL[k]'h := by
    intro k hk
    have hl : resL.length = 27 := rfl
    refine ⟨⟨(resL[k]'hk).toArray⟩, hbk.cell ?_, rfl⟩
    have e1 : (resS.map Value.string).toArray[k]? = (resS[k]?).map Value.string := by simp
    have e2 : resS[k]? = some ⟨(resL[k]'hk).toArray⟩ := by unfold resS; rw [List.getElem?_map, List.getElem?_eq_getElem (show k < resL.length from hk)]; rfl
    rw [e1, e2]; rfl
  have hrr : resB s = resL.contains s.data.toList := rfl
  have hlit : (resS.map Value.string).toArray = #[.string ⟨#[116, 114, 117, 101]⟩, .string ⟨#[102, 97, 108, 115, 101]⟩, .string ⟨#[110, 111, 116]⟩, .string ⟨#[97, 110, 100]⟩, .string ⟨#[111, 114]⟩, .string ⟨#[61, 62]⟩, .string ⟨#[120, 111, 114]⟩, .string ⟨#[61]⟩, .string ⟨#[100, 105, 115, 116, 105, 110, 99, 116]⟩, .string ⟨#[105, 116, 101]⟩, .string ⟨#[108, 101, 116]⟩, .string ⟨#[43]⟩, .string ⟨#[45]⟩, .string ⟨#[42]⟩, .string ⟨#[47]⟩, .string ⟨#[60, 61]⟩, .string ⟨#[60]⟩, .string ⟨#[62, 61]⟩, .string ⟨#[62]⟩, .string ⟨#[66, 111, 111, 108]⟩, .string ⟨#[82, 101, 97, 108]⟩, .string ⟨#[95]⟩, .string ⟨#[33]⟩, .string ⟨#[97, 115]⟩, .string ⟨#[101, 120, 105, 115, 116, 115]⟩, .string ⟨#[102, 111, 114, 97, 108, 108]⟩, .string ⟨#[112, 97, 114]⟩] := by rfl
  rw [hlit] at hW
  obtain ⟨x, hx⟩ : ∃ x, x = resB s := ⟨_, rfl⟩
  rw [← hx]
  replace hx := hide hx
  replace hc := hide hc
  replace hbl := hide hbl
  clear hbk hlit hrr
  obtain ⟨l, hl⟩ : ∃ l, l = s.data.toList := ⟨_, rfl⟩
  rw [← hl] at e1
  replace hl := hide hl
  replace hW := hide hW
  go_enter Try.func30, Try.ntmps30
  go_wp2
  rw [← hW.out]
  go_loop [4] (fun i => ∃ k : Nat, k ≤ 27 ∧ i = .int .i64 (k : Int) ∧ ∀ j (h : j < k) (h2 : j < 27), resL[j]'h2 ≠ l) (fun i => 27 - (intOf i).toNat)
  case atStart => exact ⟨0, by omega, rfl, by intro j hj; omega⟩
  case round =>
    obtain ⟨k, hk, rfl, hno⟩ := hrel
    by_cases hk27 : k < 27
    · obtain ⟨b, c0, hb⟩ := hc.out k hk27
      have e2 := e1 b
      rw [hb] at e2
      replace hb := hide hb
      by_cases heq : resL[k]'hk27 = l
      · rw [beq_iff_eq.2 heq] at e2
        have hxt : x = true := by
          rw [hx.out]
          unfold resB
          rw [List.contains_iff_mem, ← hl.out, ← heq]
          exact List.getElem_mem _
        subst hxt
        replace heq := hide heq
        replace hno := hide hno
        clear e1
        go_wp2
        go_ret
        exact ⟨rfl, hbl.out⟩
      · rw [beq_eq_false_iff_ne.2 heq] at e2
        have hno2 : Hid (∀ j (h : j < k + 1) (h2 : j < 27), resL[j]'h2 ≠ l) := hide (fun j hj h2 => by
          by_cases e : j = k
          · subst e; exact heq
          · exact hno j (by omega) h2)
        clear hno e1
        replace heq := hide heq
        go_wp2
        go_round
        case rel => exact ⟨k + 1, by omega, by go_num, hno2.out⟩
        case measure => simp [intOf]; omega
    · have hxf : x = false := by
        rw [hx.out]
        unfold resB
        rw [Bool.eq_false_iff]
        intro hm
        rw [List.contains_iff_mem] at hm
        obtain ⟨j, hj, he⟩ := List.getElem_of_mem hm
        have hl27 : resL.length = 27 := rfl
        exact hno j (by omega) (by omega) (he.trans hl.out.symm)
      subst hxf
      replace hno := hide hno
      have hkd : decide (k < 27) = false := decide_eq_false hk27
      clear e1
      go_wp2
      go_ret
      exact ⟨rfl, hbl.out⟩

theorem ref_name (s : ByteArray) (hs : s.size ≤ 9223372036854775807) (w : World) : Calls Try.prog 36 #[.string s] w fun e w' => e = .returned (.bool (nameB s)) ∧ Below w.heap.size w w' := by
  have hr := ref_reserved s w
  have go : ∀ b, nameB s = b → Calls Try.prog 36 #[.string s] w fun e w' => e = .returned (.bool b) ∧ Below w.heap.size w w' := by
    intro b hb
    by_cases h0 : 1 ≤ s.size
    · by_cases h1 : s.size ≤ 200
      · have : b = !resB s := by rw [← hb]; simp [nameB, h0, h1]
        subst this
        clear hb
        generalize resB s = x at *
        go_enter Try.func36, Try.ntmps36
        go_wp2_with (go_at_call 30; (with_reducible refine hr.mono ?_); rintro e w1 ⟨rfl, hb1⟩)
        go_ret
        exact ⟨rfl, hb1⟩
      · have : b = false := by rw [← hb]; simp [nameB, h1]
        subst this
        clear hb hr
        have h2 : decide (s.size ≤ 200) = false := decide_eq_false h1
        go_enter Try.func36, Try.ntmps36
        go_wp2
        go_ret
        exact ⟨rfl, .refl _ _⟩
    · have : b = false := by rw [← hb]; simp [nameB, h0]
      subst this
      clear hb hr
      have h2 : decide (1 ≤ s.size) = false := decide_eq_false h0
      go_enter Try.func36, Try.ntmps36
      go_wp2
      go_ret
      exact ⟨rfl, .refl _ _⟩
  exact go _ rfl
end Nt
end Go.Proofs.Ytlcgdiciiibeeaa
