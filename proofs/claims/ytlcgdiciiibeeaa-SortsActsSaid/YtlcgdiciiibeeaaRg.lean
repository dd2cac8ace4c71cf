/-
  The reference's functions in their order.
-/
import Derived.Test.YtlcgdiciiibeeaaRf
import Derived.Test.YtlcgdiciiibeeaaTv
namespace Go.Proofs.Ytlcgdiciiibeeaa
open Go.ChangeShapes Go.RowKit
namespace Nt
set_option maxRecDepth 100000
set_option linter.unusedSimpArgs false
set_option linter.unusedVariables false
theorem bl_dec : ∀ x y : List UInt8, Op.bytesLess x y = decide (x < y)
  | [], [] => by simp [Op.bytesLess]
  | [], b :: y => by simp [Op.bytesLess]
  | a :: x, [] => by simp [Op.bytesLess]
  | a :: x, b :: y => by
    have ih := bl_dec x y
    simp only [Op.bytesLess, ih]
    rw [Bool.eq_iff_iff]
    simp [List.cons_lt_cons_iff]
theorem gtr0 (t : TypeId) (a b : ByteArray) : binOp .gtr t (.string a) (.string b) = pure (.bool !(Op.bytesLess a.toList b.toList || a.toList == b.toList)) := by simp [binOp, Op.stringOp]
theorem gtr_s (t : TypeId) (a b : ByteArray) : binOp .gtr t (.string a) (.string b) = pure (.bool (decide (b.data.toList < a.data.toList))) := by
  rw [gtr0, bl_dec, ByteArray.toList_eq, ByteArray.toList_eq]
  congr 2
  by_cases h1 : a.data.toList < b.data.toList
  · have h2 : ¬ b.data.toList < a.data.toList := List.lt_asymm h1
    simp [h1, h2]
  · by_cases h3 : a.data.toList = b.data.toList
    · simp [h3, List.lt_irrefl]
    · have h2 : b.data.toList < a.data.toList := by
        have := List.not_lt.1 h1
        rcases List.le_iff_lt_or_eq.1 this with h | h
        · exact h
        · exact absurd h.symm h3
      have h4 : ¬ a.data = b.data := fun e => h3 (by rw [e])
      simp [h1, h2, h4]
def Pw (l : List Fn) : Prop := l.Pairwise (fun f h => ¬ h.nm.data.toList < f.nm.data.toList)
theorem pw_ins {l : List Fn} (h : Pw l) (x : Fn) (k : Nat) (hk : k ≤ l.length) (hgt : ∀ j (h1 : k ≤ j) (hj : j < l.length), x.nm.data.toList < l[j].nm.data.toList) (hle : k = 0 ∨ ∃ hj : k - 1 < l.length, ¬ x.nm.data.toList < l[k - 1].nm.data.toList) : Pw (l.take k ++ [x] ++ l.drop k) := by
  unfold Pw at *
  have h0 : (l.take k ++ l.drop k).Pairwise (fun f h => ¬ h.nm.data.toList < f.nm.data.toList) := by rw [List.take_append_drop]; exact h
  rw [List.pairwise_append] at h0
  obtain ⟨h1, h2, h3⟩ := h0
  rw [List.append_assoc, List.pairwise_append]
  refine ⟨h1, ?_, ?_⟩
  · rw [List.singleton_append, List.pairwise_cons]
    refine ⟨fun d hd => ?_, h2⟩
    obtain ⟨j, hj, rfl⟩ := List.getElem_of_mem hd
    rw [List.length_drop] at hj
    rw [List.getElem_drop]
    exact List.lt_asymm (hgt (k + j) (by omega) (by omega))
  · intro a ha b hb
    rw [List.singleton_append, List.mem_cons] at hb
    rcases hb with rfl | hb
    · obtain ⟨j, hj, rfl⟩ := List.getElem_of_mem ha
      rw [List.length_take] at hj
      rw [List.getElem_take]
      rcases hle with h0 | ⟨hj1, hle⟩
      · omega
      · by_cases e : j = k - 1
        · subst e; exact hle
        · have := (List.pairwise_iff_getElem.1 h) j (k - 1) (by omega) (by omega) (by omega)
          exact List.not_lt.2 (List.le_trans (List.not_lt.1 this) (List.not_lt.1 hle))
    · exact h3 a ha b hb
section
variable {w W W' w2 : World} {vs : List Value} {n : Nat} {v : Value} {y : Option Nat} {xc : Array Value} {T : List Nat}
theorem Fs.append : ∀ {a b : List Fn} {vs us : List Value}, Fs T w a vs → Fs T w b us → Fs T w (a ++ b) (vs ++ us)
  | [], _, _, _, h, h' => by cases h; exact h'
  | f :: a, b, vs, us, ⟨A, c, r, e, h1, h2, h3⟩, h' => by
    subst e
    exact ⟨A, c, r ++ us, rfl, h1, h2, h3.append h'⟩
theorem Fs.drop : ∀ {fs : List Fn} {vs : List Value}, Fs T w fs vs → ∀ k, Fs T w (fs.drop k) (vs.drop (k * 3))
  | [], vs, h, k => by cases h; simp; exact rfl
  | f :: fs, vs, h, 0 => by simpa using h
  | f :: fs, vs, ⟨A, c, r, e, h1, h2, h3⟩, k + 1 => by
    subst e
    have : (k + 1) * 3 = k * 3 + 1 + 1 + 1 := by omega
    rw [this]
    simpa using h3.drop k
theorem Rv.drop {Z : List Nat} {b o : Nat} {vs : List Value} (h : Rv Z w (some ⟨b, o, none⟩) vs) (k : Nat) : Rv Z w (some ⟨b, o + k, none⟩) (vs.drop k) := by
  rcases h with h | ⟨b', o', e, h2, h3, h4⟩
  · exact .inl (by rw [h]; simp)
  · cases e
    refine .inr ⟨b, o + k, rfl, h2, h3, fun j u hj => ?_⟩
    rw [List.getElem?_drop] at hj
    rw [Nat.add_assoc]
    exact h4 _ u hj

theorem bel_dM (w : World) (q : Nat) : Below w.heap.size w (w.drewN q) := ⟨rfl, rfl, rfl, Nat.le_refl _, fun _ _ => rfl⟩
theorem bel_dN (w : World) (q : Nat) : Below w.heap.size w (w.drewN q).drew := ⟨rfl, rfl, rfl, Nat.le_refl _, fun _ _ => rfl⟩
theorem Rv.drop0 {Z : List Nat} {A : Option Addr} (h : Rv Z w A []) (k : Nat) : Rv Z w A (([] : List Value).drop k) := .inl (by simp)
/-- A row of functions that is laid anew, and one beside it. -/
structure S3 (w2 : World) (vs : List Value) (n : Nat) (W : World) (v : Value) (y : Option Nat) (xc : Array Value) : Prop where
  bl : Below w2.heap.size w2 W
  row : W.ownsRow 0 35 3 v n vs
  fresh : ∀ b, v.ownBlock = some b → w2.heap.size ≤ b
  hy : ∀ Y, y = some Y → Bk Y xc 35 W ∧ w2.heap.size ≤ Y ∧ v.ownBlock ≠ some Y
theorem S3.start (xc : Array Value) (hb : Below w2.heap.size w2 W) : S3 w2 [] 0 W (.slice none 0 0) none xc := ⟨hb, ⟨by simp, .inl ⟨rfl, rfl⟩⟩, by simp [Value.ownBlock], by simp⟩
theorem S3.s0 (h : S3 w2 vs n W v y xc) (hB : Bk W.heap.size #[] 35 W') (hb : Below W.heap.size W W') : S3 w2 [] 0 W' (.slice (some ⟨W.heap.size, 0, none⟩) 0 0) y xc := by
  have hs := h.bl.size
  refine ⟨h.bl.trans (hb.mono hs), row_bk hB, fun b hb => by cases hb; exact hs, fun Y hY => ?_⟩
  obtain ⟨k1, k2, k3⟩ := h.hy Y hY
  exact ⟨k1.next hb, k2, fun e => by have h' := k1.lt; simp only [Value.ownBlock, Option.some.injEq] at e; omega⟩
theorem S3.s12 (h : S3 w2 vs n W v none xc) (hB : Bk W.heap.size xc 35 W') (hb : Below W.heap.size W W') : S3 w2 vs n W' v (some W.heap.size) xc := by
  have hs := h.bl.size
  refine ⟨h.bl.trans (hb.mono hs), Off.row h.row (Off.of_below hb []) (by simp), h.fresh, fun Y hY => ?_⟩
  cases hY
  exact ⟨hB, hs, fun e => by have := row_lt h.row e; omega⟩
theorem S3.app (h : S3 w2 vs n W v y xc) (A : Option Addr) (m c : Nat) (news : List Value) (hl : news.length = m * 3) (hR : Rv [] W A news) (hone : ∀ u ∈ news, u.oneCell' = true) (hm : n + m ≤ 100000) (hform : A = none → c = 0) :
    ∃ r W', (∀ t', (Builtin.append_ #[29, 29] t' #[v, .slice A m c]).run Try.prog W = .ok r W') ∧ S3 w2 (vs ++ news) (n + m) W' r y xc := by
  obtain ⟨r, W', h1, k1, k2, k3⟩ := app_row infF Try.underlying29 rfl (by decide) W v n vs h.row A m c news [] hl hR hone hm (by decide) hform
  have hs := h.bl.size
  refine ⟨r, W', h1, h.bl.trans (k2.below hs (fun b hb => h.fresh b (by rwa [Option.mem_toList] at hb))), k1, fun b hb => ?_, fun Y hY => ?_⟩
  · rcases k3 b hb with e | e
    · exact h.fresh b e
    · omega
  · obtain ⟨q1, q2, q3⟩ := h.hy Y hY
    refine ⟨q1.off k2 (fun hm => q3 (by rwa [Option.mem_toList] at hm)), q2, fun e => ?_⟩
    rcases k3 Y e with e | e
    · exact q3 e
    · have := q1.lt; omega
theorem S3.own {Y : Nat} {x1 x2 x3 : Value} (h : S3 w2 vs n W v (some Y) #[x1, x2, x3]) (hx : x1.oneCell' = true ∧ x2.oneCell' = true ∧ x3.oneCell' = true) (hm : n ≤ 10000) :
    ∃ r W', (∀ t', (Builtin.append_ #[29, 29] t' #[v, .slice (some ⟨Y, 0, none⟩) 1 1]).run Try.prog W = .ok r W') ∧ S3 w2 (vs ++ [x1, x2, x3]) (n + 1) W' r (some Y) #[x1, x2, x3] := by
  obtain ⟨q1, q2, q3⟩ := h.hy Y rfl
  exact h.app (some ⟨Y, 0, none⟩) 1 1 [x1, x2, x3] rfl (.inr ⟨Y, 0, rfl, q1.lt, by simp, fun j u hj => by rw [Nat.zero_add]; exact q1.cell (by rw [← Array.getElem?_toList]; exact hj)⟩) (by intro u hu; simp at hu; rcases hu with rfl | rfl | rfl <;> simp [hx]) (by omega) (by simp)
end
section
variable {Z R : List Nat} {w w' w3 : World} {r : Nat} {nm : List ByteArray} {fs : List Fn} {L : List (Nat × Nat)} {AN : Option Addr} {cN : Nat} {AF : Option Addr} {cF : Nat} {vL : Value}
/-- What the round leaves. -/
def AllI (T : List Nat) (w : World) (fs : List Fn) (v : Value) (i : Nat) (wr : World) : Prop :=
  ∃ l xs, l.length = i ∧ l.Perm (fs.take i) ∧ Pw l ∧ wr.ownsRow 0 35 3 v i xs ∧ Fs T wr l xs ∧ Below w.heap.size w wr
theorem all_ins {T : List Nat} {wx : World} {l : List Fn} {xs : List Value} {i k : Nat} (hl : l.length = i) (hp : l.Perm (fs.take i)) (hs : Pw l) (hF : Fs T wx l xs) (hbw : Below w.heap.size w wx) (hi : i < fs.length) (hk : k ≤ i)
    (hgt : ∀ j (h1 : k ≤ j) (hj : j < l.length), fs[i].nm.data.toList < l[j].nm.data.toList) (hle : k = 0 ∨ ∃ hj : k - 1 < l.length, ¬ fs[i].nm.data.toList < l[k - 1].nm.data.toList) {A' : Option Addr} {c' : Nat} (hI : Ir T wx A' fs[i].ar) (h64 : fs[i].ar.length ≤ 64)
    {W : World} {rv : Value} {y : Option Nat} {xc : Array Value} (S : S3 wx (xs.take (k * 3) ++ [.string fs[i].nm, .slice A' fs[i].ar.length c', .int .i64 fs[i].rs] ++ xs.drop (k * 3)) (k + 1 + (i - k)) W rv y xc) : AllI T w fs rv (i + 1) W := by
  have hO := Off.of_below S.bl []
  have hF2 : Fs T W l xs := hF.off hO (by simp) (fun b hb => .inl hb)
  have hI2 : Ir T W A' fs[i].ar := hI.off hO (by simp) (fun b hb => .inl hb)
  refine ⟨l.take k ++ [fs[i]] ++ l.drop k, xs.take (k * 3) ++ [.string fs[i].nm, .slice A' fs[i].ar.length c', .int .i64 fs[i].rs] ++ xs.drop (k * 3), ?_, ?_, pw_ins hs _ k (by omega) hgt hle, ?_, ?_, hbw.trans (S.bl.mono hbw.size)⟩
  · simp; omega
  · rw [List.take_add_one, List.getElem?_eq_getElem hi]
    have h1 : (l.take k ++ [fs[i]] ++ l.drop k).Perm (l.take k ++ l.drop k ++ [fs[i]]) := by
      rw [List.append_assoc, List.append_assoc]
      exact List.Perm.append_left _ List.perm_append_comm
    rw [List.take_append_drop] at h1
    exact h1.trans (List.Perm.append_right _ hp)
  · have := S.row
    have e : k + 1 + (i - k) = i + 1 := by omega
    rwa [e] at this
  · exact ((hF2.take k).snoc hI2 h64).append (hF2.drop k)

set_option maxHeartbeats 16000000 in
theorem ref_all (h : RfP Z w r R nm fs L AN cN AF cF vL) (hn : fs.length ≤ 1000) :
    Calls Try.prog 26 #[.pointer (some ⟨r, 0, none⟩)] w fun e w' => ∃ A c, e = .returned (.slice A fs.length c) ∧ AllI (R ++ Z) w fs (.slice A fs.length c) fs.length w' := by
  have hrd : ∀ W, Below w.heap.size w W → W.cell? ⟨r, 1, none⟩ = some (.slice AF fs.length cF) ∧ ∀ i (hi : i < fs.length), ∃ b o A' c', AF = some ⟨b, o, none⟩ ∧ W.cell? ⟨b, o + i * 3, none⟩ = some (.string fs[i].nm) ∧ W.cell? ⟨b, o + i * 3 + 1, none⟩ = some (.slice A' fs[i].ar.length c') ∧ W.cell? ⟨b, o + i * 3 + 2, none⟩ = some (.int .i64 fs[i].rs) ∧ Ir (R ++ Z) W A' fs[i].ar ∧ fs[i].ar.length ≤ 64 ∧ b < w.heap.size := by
    intro W hb
    have hh := h.next hb
    refine ⟨hh.bk.cell rfl, fun i hi => ?_⟩
    obtain ⟨vs, f1, f2⟩ := id h.rF
    obtain ⟨A, c, q0, q1, q2, q3, q4⟩ := Fs.get f2 i hi
    obtain ⟨b, o, hA, c0⟩ := f1.get q0
    obtain ⟨b1, o1, hA1, c1⟩ := f1.get q1
    obtain ⟨b2, o2, hA2, c2⟩ := f1.get q2
    rw [hA] at hA1 hA2
    cases hA1; cases hA2
    rw [← Nat.add_assoc] at c1 c2
    have hO := Off.of_below hb []
    exact ⟨b, o, A, c, hA, hO.cell c0 (cell_in c0) (by simp), hO.cell c1 (cell_in c1) (by simp), hO.cell c2 (cell_in c2) (by simp), q3.off hO (by simp) (fun b hb => .inl hb), q4, cell_in c0⟩
  have h0 : AllI (R ++ Z) w fs (.slice none 0 0) 0 w := ⟨[], [], rfl, by simp, List.Pairwise.nil, ⟨by simp, .inl ⟨rfl, rfl⟩⟩, rfl, .refl _ _⟩
  obtain ⟨n, hnn⟩ : ∃ n, n = fs.length := ⟨_, rfl⟩
  simp only [← hnn] at hrd
  have hn' : n ≤ 1000 := by omega
  obtain ⟨T, hT⟩ : ∃ T, T = R ++ Z := ⟨_, rfl⟩
  rw [← hT] at h0 hrd ⊢
  rw [← hnn]
  have a1 := (hrd w (.refl _ _)).1
  replace hrd := hide hrd
  replace h0 := hide h0
  replace hnn := hide hnn
  clear h hn hT
  go_enter Try.func26, Try.ntmps26
  go_wp2
  go_loopw [3, 4] (fun v i wr => ∃ (j : Nat) (A : Option Addr) (c : Nat), j ≤ n ∧ (j = 0 → A = none ∧ c = 0) ∧ v = .slice A j c ∧ i = .int .i64 (j : Int) ∧ AllI T w fs (.slice A j c) j wr) (fun _ i _ => n - (intOf i).toNat)
  case atStart => exact ⟨0, none, 0, Nat.zero_le _, fun _ => ⟨rfl, rfl⟩, rfl, rfl, h0.out⟩
  case round =>
    obtain ⟨i, A, c, hi, hz, rfl, rfl, hA⟩ := hrel
    obtain ⟨w1, hw1⟩ : ∃ x, x = wr := ⟨_, rfl⟩
    subst hw1
    have hA0 := hide hA
    obtain ⟨l, xs, hl, hp, hs, hrow, hF, hbw⟩ := hA
    obtain ⟨a1', hrdi⟩ := hrd.out w1 hbw
    by_cases hin : i < n
    · have hif : i < fs.length := by rw [← hnn.out]; exact hin
      obtain ⟨b, o, A', c', rfl, x0, x1, x2, hI, h64, hbl⟩ := hrdi i hin
      have hxl : xs.length = i * 3 := hrow.1
      have hone : ∀ u ∈ xs, u.oneCell' = true := Fs.one hF
      have hRv : ∀ W, Below w1.heap.size w1 W → Rv [] W A xs := fun W hb => (Rv.of_row hrow (fun k _ => List.not_mem_nil)).off (Off.of_below hb []) (by simp) (by simp)
      have hS8 : ∀ W, Below w1.heap.size w1 W → W.cell? ⟨r, 1, none⟩ = some (.slice (some ⟨b, o, none⟩) n cF) ∧ W.cell? ⟨b, o + i * 3, none⟩ = some (.string fs[i].nm) ∧ W.cell? ⟨b, o + i * 3 + 1, none⟩ = some (.slice A' fs[i].ar.length c') ∧ W.cell? ⟨b, o + i * 3 + 2, none⟩ = some (.int .i64 fs[i].rs) := fun W hb => by
        have hO := Off.of_below hb []
        exact ⟨hO.cell a1' (cell_in a1') (by simp), hO.cell x0 (cell_in x0) (by simp), hO.cell x1 (cell_in x1) (by simp), hO.cell x2 (cell_in x2) (by simp)⟩
      have hstep : ∀ (k : Nat) (hk : k ≤ i) (_ : ∀ j (h1 : k ≤ j) (hj : j < l.length), fs[i].nm.data.toList < l[j].nm.data.toList) (_ : k = 0 ∨ ∃ hj : k - 1 < l.length, ¬ fs[i].nm.data.toList < l[k - 1].nm.data.toList) (W : World) (rv : Value) (y : Option Nat) (xc : Array Value),
          S3 w1 (xs.take (k * 3) ++ [.string fs[i].nm, .slice A' fs[i].ar.length c', .int .i64 fs[i].rs] ++ xs.drop (k * 3)) (k + 1 + (i - k)) W rv y xc → AllI T w fs rv (i + 1) W ∧ ∃ A2 c2, rv = .slice A2 (i + 1) c2 := fun k hk hgt hle W rv y xc S => by
        have q := all_ins hl hp hs hF hbw hif hk hgt hle hI h64 S
        refine ⟨q, ?_⟩
        obtain ⟨_, _, _, _, _, q4, _⟩ := q
        rcases q4.2 with ⟨_, h0⟩ | ⟨g, cap, cu, e, _⟩
        · omega
        · exact ⟨_, _, e⟩
      have hlc : ∀ k (hk : k < i), ∃ g, A = some ⟨g, 0, none⟩ ∧ ∀ W, Below w1.heap.size w1 W → W.cell? ⟨g, k * 3, none⟩ = some (.string (l[k]'(by omega)).nm) := fun k hk => by
        have hkl : k < l.length := by omega
        obtain ⟨Ak, ck, q0, _⟩ := Fs.get hF k hkl
        rcases hrow.2 with ⟨e, h0⟩ | ⟨g, cap, cu, e, _⟩
        · omega
        · cases e
          refine ⟨g, rfl, fun W hb => ?_⟩
          have := hrow.cells (g := g) rfl _ _ q0
          rw [Addr.add_lit, Nat.zero_add] at this
          exact (Off.of_below hb []).cell this (cell_in this) (by simp)
      have hform : (A = none ∧ i = 0 ∧ c = 0 ∧ xs = []) ∨ (1 ≤ i ∧ i ≤ c ∧ c ≤ 9223372036854775807 ∧ ∃ g, A = some ⟨g, 0, none⟩) := by
        rcases hrow.2 with ⟨e, h0⟩ | ⟨g, cap, cu, e, _, _, q1, q2, _⟩
        · cases e
          exact .inl ⟨rfl, rfl, rfl, List.eq_nil_of_length_eq_zero (by omega)⟩
        · cases e
          by_cases h1 : 1 ≤ i
          · exact .inr ⟨h1, q1, by unfold maxLen at q2; omega, g, rfl⟩
          · obtain ⟨e, _⟩ := hz (by omega); cases e
      have hi3 := hide (show i ≤ 1000 by omega)
      generalize fs[i].nm = nk at *
      generalize fs[i].rs = rk at *
      generalize fs[i].ar = ark at *
      obtain ⟨m, hm⟩ : ∃ m, m = ark.length := ⟨_, rfl⟩
      simp only [← hm] at x1 hS8 hstep
      have hm64 : m ≤ 64 := by omega
      replace hS8 := hide hS8; replace hRv := hide hRv; replace hstep := hide hstep; replace hlc := hide hlc; replace hone := hide hone; replace hxl := hide hxl; replace hl := hide hl
      clear hA0 hp hs hrow hF hI h64 hrdi hm hbl
      rcases hform with ⟨rfl, rfl, rfl, rfl⟩ | ⟨h1i, hic, hcm, g, rfl⟩
      · go_wp2
        go_loopw [5] (fun q wx => q = .int .i64 0 ∧ Below w1.heap.size w1 wx) (fun q _ => 0)
        case atStart => exact ⟨rfl, .refl _ _⟩
        case round =>
          obtain ⟨rfl, hbx⟩ := hrel
          have hbx := hide hbx
          go_wp2
          go_quiet (fail)
          go_wp2
          have hst := hide (hstep.out 0 (by omega) (fun j h1 hj => by have := hl.out; omega) (.inl rfl))
          have htl := hide (show (([] : List Value).take (0 * 3)).length = 0 * 3 by first | rfl | (rw [List.length_take, hxl.out]; omega))
          have hdl := hide (show (([] : List Value).drop (0 * 3)).length = 0 * 3 by first | rfl | (rw [List.length_drop, hxl.out]; omega))
          have hto := hide (show ∀ u ∈ ([] : List Value).take (0 * 3), u.oneCell' = true from fun u hu => hone.out u (List.mem_of_mem_take hu))
          have hdo := hide (show ∀ u ∈ ([] : List Value).drop (0 * 3), u.oneCell' = true from fun u hu => hone.out u (List.mem_of_mem_drop hu))
          go_wp2
          obtain ⟨W8, hW8⟩ : ∃ W, W = wr.drewN nq := ⟨_, rfl⟩
          rw [← hW8]
          have st := hide (S3.start (w2 := w1) (W := W8.drew) #[.string nk, .slice A' m c', .int .i64 rk] (by rw [hW8]; exact hbx.out.trans ((bel_dN wr nq).mono hbx.out.size)))
          replace hW8 := hide hW8
          refine wp_region_T (fun W => W.cell? ⟨r, 1, none⟩ = some (.slice (some ⟨b, o, none⟩) n cF) ∧ W.cell? ⟨b, o, none⟩ = some (.string nk) ∧ W.cell? ⟨b, o + 1, none⟩ = some (.slice A' m c') ∧ W.cell? ⟨b, o + 2, none⟩ = some (.int .i64 rk)) 18 (by kernel_rfl) (hS8.out _ st.out.bl) (fun hHeld => ?_)
          refine wpAnyT_take 12 (i := 1) (v := ?vvt1) (by (simp only [List.getElem?_toArray, List.getElem?_cons_zero, List.getElem?_cons_succ]) <;> rfl) (by kernel_rfl) (by kernel_rfl) (by kernel_rfl) (by kernel_rfl) (by kernel_rfl) (by rfl) ?hqt1 (Or.inl ⟨by rfl, ?hyt1⟩) (by assumption) ?_
          case hqt1 => exact fun _ _ _ h => h
          case hyt1 => ((intro w hSw; (try dsimp only at hSw); go_simp) <;> (with_reducible rfl))
          (try simp only [Act.put, List.setIfInBounds_toArray, List.set_cons_zero, List.set_cons_succ])
          refine wpAnyT_take 12 (i := 2) (v := ?vvt2) (by (simp only [List.getElem?_toArray, List.getElem?_cons_zero, List.getElem?_cons_succ]) <;> rfl) (by kernel_rfl) (by kernel_rfl) (by kernel_rfl) (by kernel_rfl) (by kernel_rfl) (by rfl) ?hqt2 (Or.inl ⟨by rfl, ?hyt2⟩) (by assumption) ?_
          case hqt2 => exact fun _ _ _ h => h
          case hyt2 => ((intro w hSw; (try dsimp only at hSw); go_simp) <;> (with_reducible rfl))
          (try simp only [Act.put, List.setIfInBounds_toArray, List.set_cons_zero, List.set_cons_succ])
          refine wpAnyT_take 12 (i := 3) (v := ?vvt3) (by (simp only [List.getElem?_toArray, List.getElem?_cons_zero, List.getElem?_cons_succ]) <;> rfl) (by kernel_rfl) (by kernel_rfl) (by kernel_rfl) (by kernel_rfl) (by kernel_rfl) (by rfl) ?hqt3 (Or.inl ⟨by rfl, ?hyt3⟩) (by assumption) ?_
          case hqt3 => exact fun _ _ _ h => h
          case hyt3 => ((intro w hSw; (try dsimp only at hSw); go_simp) <;> (with_reducible rfl))
          (try simp only [Act.put, List.setIfInBounds_toArray, List.set_cons_zero, List.set_cons_succ])
          refine wpAnyT_take 12 (i := 5) (v := ?vvt4) (by (simp only [List.getElem?_toArray, List.getElem?_cons_zero, List.getElem?_cons_succ]) <;> rfl) (by kernel_rfl) (by kernel_rfl) (by kernel_rfl) (by kernel_rfl) (by kernel_rfl) (by rfl) ?hqt4 (Or.inl ⟨by rfl, ?hyt4⟩) (by assumption) ?_
          case hqt4 => exact fun _ _ _ h => h
          case hyt4 => ((intro w hSw; (try dsimp only at hSw); go_simp) <;> (with_reducible rfl))
          (try simp only [Act.put, List.setIfInBounds_toArray, List.set_cons_zero, List.set_cons_succ])
          refine wpAnyT_take 12 (i := 6) (v := ?vvt5) (by (simp only [List.getElem?_toArray, List.getElem?_cons_zero, List.getElem?_cons_succ]) <;> rfl) (by kernel_rfl) (by kernel_rfl) (by kernel_rfl) (by kernel_rfl) (by kernel_rfl) (by rfl) ?hqt5 (Or.inl ⟨by rfl, ?hyt5⟩) (by assumption) ?_
          case hqt5 => exact fun _ _ _ h => h
          case hyt5 => ((intro w hSw; (try dsimp only at hSw); go_simp) <;> (with_reducible rfl))
          (try simp only [Act.put, List.setIfInBounds_toArray, List.set_cons_zero, List.set_cons_succ])
          refine wpAnyT_take 12 (i := 7) (v := ?vvt6) (by (simp only [List.getElem?_toArray, List.getElem?_cons_zero, List.getElem?_cons_succ]) <;> rfl) (by kernel_rfl) (by kernel_rfl) (by kernel_rfl) (by kernel_rfl) (by kernel_rfl) (by rfl) ?hqt6 (Or.inl ⟨by rfl, ?hyt6⟩) (by assumption) ?_
          case hqt6 => exact fun _ _ _ h => h
          case hyt6 => ((intro w hSw; (try dsimp only at hSw); go_simp) <;> (with_reducible rfl))
          (try simp only [Act.put, List.setIfInBounds_toArray, List.set_cons_zero, List.set_cons_succ])
          refine wpAnyT_take 12 (i := 8) (v := ?vvt7) (by (simp only [List.getElem?_toArray, List.getElem?_cons_zero, List.getElem?_cons_succ]) <;> rfl) (by kernel_rfl) (by kernel_rfl) (by kernel_rfl) (by kernel_rfl) (by kernel_rfl) (by rfl) ?hqt7 (Or.inl ⟨by rfl, ?hyt7⟩) (by assumption) ?_
          case hqt7 => exact fun _ _ _ h => h
          case hyt7 => ((intro w hSw; (try dsimp only at hSw); go_simp) <;> (with_reducible rfl))
          (try simp only [Act.put, List.setIfInBounds_toArray, List.set_cons_zero, List.set_cons_succ])
          refine wpAnyT_take 12 (i := 9) (v := ?vvt8) (by (simp only [List.getElem?_toArray, List.getElem?_cons_zero, List.getElem?_cons_succ]) <;> rfl) (by kernel_rfl) (by kernel_rfl) (by kernel_rfl) (by kernel_rfl) (by kernel_rfl) (by rfl) ?hqt8 (Or.inl ⟨by rfl, ?hyt8⟩) (by assumption) ?_
          case hqt8 => exact fun _ _ _ h => h
          case hyt8 => ((intro w hSw; (try dsimp only at hSw); go_simp) <;> (with_reducible rfl))
          (try simp only [Act.put, List.setIfInBounds_toArray, List.set_cons_zero, List.set_cons_succ])
          refine wpAnyT_take 12 (i := 10) (v := ?vvt9) (by (simp only [List.getElem?_toArray, List.getElem?_cons_zero, List.getElem?_cons_succ]) <;> rfl) (by kernel_rfl) (by kernel_rfl) (by kernel_rfl) (by kernel_rfl) (by kernel_rfl) (by rfl) ?hqt9 (Or.inl ⟨by rfl, ?hyt9⟩) (by assumption) ?_
          case hqt9 => exact fun _ _ _ h => h
          case hyt9 => ((intro w hSw; (try dsimp only at hSw); go_simp) <;> (with_reducible rfl))
          (try simp only [Act.put, List.setIfInBounds_toArray, List.set_cons_zero, List.set_cons_succ])
          refine wpAnyT_take 12 (i := 11) (v := ?vvt10) (by (simp only [List.getElem?_toArray, List.getElem?_cons_zero, List.getElem?_cons_succ]) <;> rfl) (by kernel_rfl) (by kernel_rfl) (by kernel_rfl) (by kernel_rfl) (by kernel_rfl) (by rfl) ?hqt10 (Or.inl ⟨by rfl, ?hyt10⟩) (by assumption) ?_
          case hqt10 => exact fun _ _ _ h => h
          case hyt10 => ((intro w hSw; (try dsimp only at hSw); go_simp) <;> (with_reducible rfl))
          (try simp only [Act.put, List.setIfInBounds_toArray, List.set_cons_zero, List.set_cons_succ])
          refine wpAnyT_take 12 (i := 14) (v := ?vvt11) (by (simp only [List.getElem?_toArray, List.getElem?_cons_zero, List.getElem?_cons_succ]) <;> rfl) (by kernel_rfl) (by kernel_rfl) (by kernel_rfl) (by kernel_rfl) (by kernel_rfl) (by rfl) ?hqt11 (Or.inl ⟨by rfl, ?hyt11⟩) (by assumption) ?_
          case hqt11 => exact fun _ _ _ h => h
          case hyt11 => ((intro w hSw; (try dsimp only at hSw); go_simp) <;> (with_reducible rfl))
          (try simp only [Act.put, List.setIfInBounds_toArray, List.set_cons_zero, List.set_cons_succ])
          refine wpAnyT_take 12 (i := 15) (v := ?vvt12) (by (simp only [List.getElem?_toArray, List.getElem?_cons_zero, List.getElem?_cons_succ]) <;> rfl) (by kernel_rfl) (by kernel_rfl) (by kernel_rfl) (by kernel_rfl) (by kernel_rfl) (by rfl) ?hqt12 (Or.inl ⟨by rfl, ?hyt12⟩) (by assumption) ?_
          case hqt12 => exact fun _ _ _ h => h
          case hyt12 => ((intro w hSw; (try dsimp only at hSw); go_simp) <;> (with_reducible rfl))
          (try simp only [Act.put, List.setIfInBounds_toArray, List.set_cons_zero, List.set_cons_succ])
          refine wpAnyT_take 12 (i := 16) (v := ?vvt13) (by (simp only [List.getElem?_toArray, List.getElem?_cons_zero, List.getElem?_cons_succ]) <;> rfl) (by kernel_rfl) (by kernel_rfl) (by kernel_rfl) (by kernel_rfl) (by kernel_rfl) (by rfl) ?hqt13 (Or.inl ⟨by rfl, ?hyt13⟩) (by assumption) ?_
          case hqt13 => exact fun _ _ _ h => h
          case hyt13 => ((intro w hSw; (try dsimp only at hSw); go_simp) <;> (with_reducible rfl))
          (try simp only [Act.put, List.setIfInBounds_toArray, List.set_cons_zero, List.set_cons_succ])
          refine wpAnyT_ready (rs := [0, 12]) (by kernel_rfl) (by simp) ?_
          refine (AllReadyT.cons (by (simp only [List.getElem?_toArray, List.getElem?_cons_zero, List.getElem?_cons_succ]) <;> rfl) (fun K hK => ?_) (AllReadyT.cons (by (simp only [List.getElem?_toArray, List.getElem?_cons_zero, List.getElem?_cons_succ]) <;> rfl) (fun K hK => ?_) AllReadyT.nil))
          · rw [if_pos (by rfl)]
            refine wp_build0 29 35 3 rfl Try.underlying29 Try.sizeOf35 ?_
            intro W0 hB0 hb0
            have st := hide (S3.s0 st.out hB0 hb0)
            refine hK.out _ _ (hS8.out _ st.out.bl) (fun hHeld => ?_)
            (try clear hK K)
            (try simp only [Act.put, List.setIfInBounds_toArray, List.set_cons_zero, List.set_cons_succ])
            refine wpAnyT_ready (rs := [4, 12]) (by kernel_rfl) (by simp) ?_
            refine (AllReadyT.cons (by (simp only [List.getElem?_toArray, List.getElem?_cons_zero, List.getElem?_cons_succ]) <;> rfl) (fun K hK => ?_) (AllReadyT.cons (by (simp only [List.getElem?_toArray, List.getElem?_cons_zero, List.getElem?_cons_succ]) <;> rfl) (fun K hK => ?_) AllReadyT.nil))
            · rw [if_pos (by rfl)]
              refine wp_append_ex (.tmp 38) (.tmp 41) 29 rfl (.slice (some ⟨_, 0, none⟩) 0 0) (.slice none 0 0) rfl rfl _ (S3.app st.out none 0 0 (([] : List Value).take (0 * 3)) htl.out ((hRv.out _ st.out.bl).take _) hto.out (by have := hi3.out; omega) (by simp)) ?_
              rintro v4 W4 st
              replace st := hide st
              refine hK.out _ _ (hS8.out _ st.out.bl) (fun hHeld => ?_)
              (try clear hK K)
              (try simp only [Act.put, List.setIfInBounds_toArray, List.set_cons_zero, List.set_cons_succ])
              refine wpAnyT_ready (rs := [12]) (by kernel_rfl) (by simp) ?_
              refine (AllReadyT.cons (by (simp only [List.getElem?_toArray, List.getElem?_cons_zero, List.getElem?_cons_succ]) <;> rfl) (fun K hK => ?_) AllReadyT.nil)
              rw [if_pos (by rfl)]
              refine wp_buildF 49 nk A' m c' rk rfl rfl ?_
              intro W12 hB12 hb12
              have st := hide (S3.s12 st.out hB12 hb12)
              refine hK.out _ _ (hS8.out _ st.out.bl) (fun hHeld => ?_)
              (try clear hK K)
              (try simp only [Act.put, List.setIfInBounds_toArray, List.set_cons_zero, List.set_cons_succ])
              refine wpAnyT_ready (rs := [13]) (by kernel_rfl) (by simp) ?_
              refine (AllReadyT.cons (by (simp only [List.getElem?_toArray, List.getElem?_cons_zero, List.getElem?_cons_succ]) <;> rfl) (fun K hK => ?_) AllReadyT.nil)
              rw [if_pos (by rfl)]
              refine wp_append_ex (.tmp 42) (.tmp 50) 29 rfl v4 (.slice (some ⟨_, 0, none⟩) 1 1) rfl rfl _ (S3.own st.out ⟨rfl, rfl, rfl⟩ (by have := hi3.out; omega)) ?_
              rintro v13 W13 st
              replace st := hide st
              refine hK.out _ _ (hS8.out _ st.out.bl) (fun hHeld => ?_)
              (try clear hK K)
              (try simp only [Act.put, List.setIfInBounds_toArray, List.set_cons_zero, List.set_cons_succ])
              refine wpAnyT_ready (rs := [17]) (by kernel_rfl) (by simp) ?_
              refine (AllReadyT.cons (by (simp only [List.getElem?_toArray, List.getElem?_cons_zero, List.getElem?_cons_succ]) <;> rfl) (fun K hK => ?_) AllReadyT.nil)
              rw [if_pos (by rfl)]
              refine wp_append_ex (.tmp 51) (.tmp 54) 29 rfl v13 (.slice none 0 0) rfl rfl _ (S3.app st.out none 0 0 (([] : List Value).drop (0 * 3)) hdl.out ((hRv.out _ st.out.bl).drop0 _) hdo.out (by have := hi3.out; omega) (by simp)) ?_
              rintro v17 W17 st
              obtain ⟨hAl, A9, c9, rfl⟩ := hst.out _ _ _ _ (by simpa using st)
              replace st := hide st
              replace hAl := hide hAl
              refine hK.out _ _ (hS8.out _ st.out.bl) (fun hHeld => ?_)
              (try clear hK K)
              (try simp only [Act.put, List.setIfInBounds_toArray, List.set_cons_zero, List.set_cons_succ])
              refine wpAnyT_ready (rs := [18]) (by kernel_rfl) (by simp) ?_
              refine (AllReadyT.last (by (simp only [List.getElem?_toArray, List.getElem?_cons_zero, List.getElem?_cons_succ]) <;> rfl) (by kernel_rfl) (fun K hK => ?_) AllReadyT.nil)
              go_simp
              refine hK.out _ _ ?_
              (try clear hK K)
              (try simp only [Act.put, List.setIfInBounds_toArray, List.set_cons_zero, List.set_cons_succ])
              refine wpAnyT_done (by kernel_rfl) ?_ _
              (try clear hHeld)
              (try go_wp2)
              go_roundw
              all_goals (try simp only [Array.getD_eq_getD_getElem?, List.getElem?_toArray, List.getElem?_cons_succ, List.getElem?_cons_zero, Option.getD_some])
              case rel => exact ⟨0 + 1, A9, c9, by omega, fun h => by omega, rfl, by go_num, hAl.out⟩
              case measure => simp [intOf]; omega
            · rw [if_pos (by rfl)]
              refine wp_buildF 49 nk A' m c' rk rfl rfl ?_
              intro W12 hB12 hb12
              have st := hide (S3.s12 st.out hB12 hb12)
              refine hK.out _ _ (hS8.out _ st.out.bl) (fun hHeld => ?_)
              (try clear hK K)
              (try simp only [Act.put, List.setIfInBounds_toArray, List.set_cons_zero, List.set_cons_succ])
              refine wpAnyT_ready (rs := [4]) (by kernel_rfl) (by simp) ?_
              refine (AllReadyT.cons (by (simp only [List.getElem?_toArray, List.getElem?_cons_zero, List.getElem?_cons_succ]) <;> rfl) (fun K hK => ?_) AllReadyT.nil)
              rw [if_pos (by rfl)]
              refine wp_append_ex (.tmp 38) (.tmp 41) 29 rfl (.slice (some ⟨_, 0, none⟩) 0 0) (.slice none 0 0) rfl rfl _ (S3.app st.out none 0 0 (([] : List Value).take (0 * 3)) htl.out ((hRv.out _ st.out.bl).take _) hto.out (by have := hi3.out; omega) (by simp)) ?_
              rintro v4 W4 st
              replace st := hide st
              refine hK.out _ _ (hS8.out _ st.out.bl) (fun hHeld => ?_)
              (try clear hK K)
              (try simp only [Act.put, List.setIfInBounds_toArray, List.set_cons_zero, List.set_cons_succ])
              refine wpAnyT_ready (rs := [13]) (by kernel_rfl) (by simp) ?_
              refine (AllReadyT.cons (by (simp only [List.getElem?_toArray, List.getElem?_cons_zero, List.getElem?_cons_succ]) <;> rfl) (fun K hK => ?_) AllReadyT.nil)
              rw [if_pos (by rfl)]
              refine wp_append_ex (.tmp 42) (.tmp 50) 29 rfl v4 (.slice (some ⟨_, 0, none⟩) 1 1) rfl rfl _ (S3.own st.out ⟨rfl, rfl, rfl⟩ (by have := hi3.out; omega)) ?_
              rintro v13 W13 st
              replace st := hide st
              refine hK.out _ _ (hS8.out _ st.out.bl) (fun hHeld => ?_)
              (try clear hK K)
              (try simp only [Act.put, List.setIfInBounds_toArray, List.set_cons_zero, List.set_cons_succ])
              refine wpAnyT_ready (rs := [17]) (by kernel_rfl) (by simp) ?_
              refine (AllReadyT.cons (by (simp only [List.getElem?_toArray, List.getElem?_cons_zero, List.getElem?_cons_succ]) <;> rfl) (fun K hK => ?_) AllReadyT.nil)
              rw [if_pos (by rfl)]
              refine wp_append_ex (.tmp 51) (.tmp 54) 29 rfl v13 (.slice none 0 0) rfl rfl _ (S3.app st.out none 0 0 (([] : List Value).drop (0 * 3)) hdl.out ((hRv.out _ st.out.bl).drop0 _) hdo.out (by have := hi3.out; omega) (by simp)) ?_
              rintro v17 W17 st
              obtain ⟨hAl, A9, c9, rfl⟩ := hst.out _ _ _ _ (by simpa using st)
              replace st := hide st
              replace hAl := hide hAl
              refine hK.out _ _ (hS8.out _ st.out.bl) (fun hHeld => ?_)
              (try clear hK K)
              (try simp only [Act.put, List.setIfInBounds_toArray, List.set_cons_zero, List.set_cons_succ])
              refine wpAnyT_ready (rs := [18]) (by kernel_rfl) (by simp) ?_
              refine (AllReadyT.last (by (simp only [List.getElem?_toArray, List.getElem?_cons_zero, List.getElem?_cons_succ]) <;> rfl) (by kernel_rfl) (fun K hK => ?_) AllReadyT.nil)
              go_simp
              refine hK.out _ _ ?_
              (try clear hK K)
              (try simp only [Act.put, List.setIfInBounds_toArray, List.set_cons_zero, List.set_cons_succ])
              refine wpAnyT_done (by kernel_rfl) ?_ _
              (try clear hHeld)
              (try go_wp2)
              go_roundw
              all_goals (try simp only [Array.getD_eq_getD_getElem?, List.getElem?_toArray, List.getElem?_cons_succ, List.getElem?_cons_zero, Option.getD_some])
              case rel => exact ⟨0 + 1, A9, c9, by omega, fun h => by omega, rfl, by go_num, hAl.out⟩
              case measure => simp [intOf]; omega
          · rw [if_pos (by rfl)]
            refine wp_buildF 49 nk A' m c' rk rfl rfl ?_
            intro W12 hB12 hb12
            have st := hide (S3.s12 st.out hB12 hb12)
            refine hK.out _ _ (hS8.out _ st.out.bl) (fun hHeld => ?_)
            (try clear hK K)
            (try simp only [Act.put, List.setIfInBounds_toArray, List.set_cons_zero, List.set_cons_succ])
            refine wpAnyT_ready (rs := [0]) (by kernel_rfl) (by simp) ?_
            refine (AllReadyT.cons (by (simp only [List.getElem?_toArray, List.getElem?_cons_zero, List.getElem?_cons_succ]) <;> rfl) (fun K hK => ?_) AllReadyT.nil)
            rw [if_pos (by rfl)]
            refine wp_build0 29 35 3 rfl Try.underlying29 Try.sizeOf35 ?_
            intro W0 hB0 hb0
            have st := hide (S3.s0 st.out hB0 hb0)
            refine hK.out _ _ (hS8.out _ st.out.bl) (fun hHeld => ?_)
            (try clear hK K)
            (try simp only [Act.put, List.setIfInBounds_toArray, List.set_cons_zero, List.set_cons_succ])
            refine wpAnyT_ready (rs := [4]) (by kernel_rfl) (by simp) ?_
            refine (AllReadyT.cons (by (simp only [List.getElem?_toArray, List.getElem?_cons_zero, List.getElem?_cons_succ]) <;> rfl) (fun K hK => ?_) AllReadyT.nil)
            rw [if_pos (by rfl)]
            refine wp_append_ex (.tmp 38) (.tmp 41) 29 rfl (.slice (some ⟨_, 0, none⟩) 0 0) (.slice none 0 0) rfl rfl _ (S3.app st.out none 0 0 (([] : List Value).take (0 * 3)) htl.out ((hRv.out _ st.out.bl).take _) hto.out (by have := hi3.out; omega) (by simp)) ?_
            rintro v4 W4 st
            replace st := hide st
            refine hK.out _ _ (hS8.out _ st.out.bl) (fun hHeld => ?_)
            (try clear hK K)
            (try simp only [Act.put, List.setIfInBounds_toArray, List.set_cons_zero, List.set_cons_succ])
            refine wpAnyT_ready (rs := [13]) (by kernel_rfl) (by simp) ?_
            refine (AllReadyT.cons (by (simp only [List.getElem?_toArray, List.getElem?_cons_zero, List.getElem?_cons_succ]) <;> rfl) (fun K hK => ?_) AllReadyT.nil)
            rw [if_pos (by rfl)]
            refine wp_append_ex (.tmp 42) (.tmp 50) 29 rfl v4 (.slice (some ⟨_, 0, none⟩) 1 1) rfl rfl _ (S3.own st.out ⟨rfl, rfl, rfl⟩ (by have := hi3.out; omega)) ?_
            rintro v13 W13 st
            replace st := hide st
            refine hK.out _ _ (hS8.out _ st.out.bl) (fun hHeld => ?_)
            (try clear hK K)
            (try simp only [Act.put, List.setIfInBounds_toArray, List.set_cons_zero, List.set_cons_succ])
            refine wpAnyT_ready (rs := [17]) (by kernel_rfl) (by simp) ?_
            refine (AllReadyT.cons (by (simp only [List.getElem?_toArray, List.getElem?_cons_zero, List.getElem?_cons_succ]) <;> rfl) (fun K hK => ?_) AllReadyT.nil)
            rw [if_pos (by rfl)]
            refine wp_append_ex (.tmp 51) (.tmp 54) 29 rfl v13 (.slice none 0 0) rfl rfl _ (S3.app st.out none 0 0 (([] : List Value).drop (0 * 3)) hdl.out ((hRv.out _ st.out.bl).drop0 _) hdo.out (by have := hi3.out; omega) (by simp)) ?_
            rintro v17 W17 st
            obtain ⟨hAl, A9, c9, rfl⟩ := hst.out _ _ _ _ (by simpa using st)
            replace st := hide st
            replace hAl := hide hAl
            refine hK.out _ _ (hS8.out _ st.out.bl) (fun hHeld => ?_)
            (try clear hK K)
            (try simp only [Act.put, List.setIfInBounds_toArray, List.set_cons_zero, List.set_cons_succ])
            refine wpAnyT_ready (rs := [18]) (by kernel_rfl) (by simp) ?_
            refine (AllReadyT.last (by (simp only [List.getElem?_toArray, List.getElem?_cons_zero, List.getElem?_cons_succ]) <;> rfl) (by kernel_rfl) (fun K hK => ?_) AllReadyT.nil)
            go_simp
            refine hK.out _ _ ?_
            (try clear hK K)
            (try simp only [Act.put, List.setIfInBounds_toArray, List.set_cons_zero, List.set_cons_succ])
            refine wpAnyT_done (by kernel_rfl) ?_ _
            (try clear hHeld)
            (try go_wp2)
            go_roundw
            all_goals (try simp only [Array.getD_eq_getD_getElem?, List.getElem?_toArray, List.getElem?_cons_succ, List.getElem?_cons_zero, Option.getD_some])
            case rel => exact ⟨0 + 1, A9, c9, by omega, fun h => by omega, rfl, by go_num, hAl.out⟩
            case measure => simp [intOf]; omega
      · go_wp2
        go_loopw [5] (fun q wx => ∃ k : Nat, k ≤ i ∧ q = .int .i64 (k : Int) ∧ (∀ j (h1 : k ≤ j) (hj : j < l.length), nk.data.toList < l[j].nm.data.toList) ∧ Below w1.heap.size w1 wx) (fun q _ => (intOf q).toNat)
        case atStart => exact ⟨i, Nat.le_refl _, rfl, fun j h1 hj => by have := hl.out; omega, .refl _ _⟩
        case round =>
          obtain ⟨k, hki, rfl, hgt, hbx⟩ := hrel
          obtain ⟨a1'', x0', x1', x2'⟩ := hS8.out _ hbx
          replace hbx := hide hbx
          replace hgt := hide hgt
          by_cases hk0 : k = 0
          · subst hk0
            go_wp2
            go_quiet (fail)
            go_wp2
            have hst := hide (hstep.out 0 (by omega) hgt.out (.inl rfl))
            have htl := hide (show (xs.take (0 * 3)).length = 0 * 3 by first | rfl | (rw [List.length_take, hxl.out]; omega))
            have hdl := hide (show (xs.drop (0 * 3)).length = i * 3 by first | rfl | (rw [List.length_drop, hxl.out]; omega))
            have hto := hide (show ∀ u ∈ xs.take (0 * 3), u.oneCell' = true from fun u hu => hone.out u (List.mem_of_mem_take hu))
            have hdo := hide (show ∀ u ∈ xs.drop (0 * 3), u.oneCell' = true from fun u hu => hone.out u (List.mem_of_mem_drop hu))
            go_wp2
            obtain ⟨W8, hW8⟩ : ∃ W, W = wr.drewN nq := ⟨_, rfl⟩
            rw [← hW8]
            have st := hide (S3.start (w2 := w1) (W := W8.drew) #[.string nk, .slice A' m c', .int .i64 rk] (by rw [hW8]; exact hbx.out.trans ((bel_dN wr nq).mono hbx.out.size)))
            replace hW8 := hide hW8
            refine wp_region_T (fun W => W.cell? ⟨r, 1, none⟩ = some (.slice (some ⟨b, o, none⟩) n cF) ∧ W.cell? ⟨b, o + i * 3, none⟩ = some (.string nk) ∧ W.cell? ⟨b, o + i * 3 + 1, none⟩ = some (.slice A' m c') ∧ W.cell? ⟨b, o + i * 3 + 2, none⟩ = some (.int .i64 rk)) 18 (by kernel_rfl) (hS8.out _ st.out.bl) (fun hHeld => ?_)
            refine wpAnyT_take 12 (i := 1) (v := ?vvt14) (by (simp only [List.getElem?_toArray, List.getElem?_cons_zero, List.getElem?_cons_succ]) <;> rfl) (by kernel_rfl) (by kernel_rfl) (by kernel_rfl) (by kernel_rfl) (by kernel_rfl) (by rfl) ?hqt14 (Or.inl ⟨by rfl, ?hyt14⟩) (by assumption) ?_
            case hqt14 => exact fun _ _ _ h => h
            case hyt14 => ((intro w hSw; (try dsimp only at hSw); go_simp) <;> (with_reducible rfl))
            (try simp only [Act.put, List.setIfInBounds_toArray, List.set_cons_zero, List.set_cons_succ])
            refine wpAnyT_take 12 (i := 2) (v := ?vvt15) (by (simp only [List.getElem?_toArray, List.getElem?_cons_zero, List.getElem?_cons_succ]) <;> rfl) (by kernel_rfl) (by kernel_rfl) (by kernel_rfl) (by kernel_rfl) (by kernel_rfl) (by rfl) ?hqt15 (Or.inl ⟨by rfl, ?hyt15⟩) (by assumption) ?_
            case hqt15 => exact fun _ _ _ h => h
            case hyt15 => ((intro w hSw; (try dsimp only at hSw); go_simp) <;> (with_reducible rfl))
            (try simp only [Act.put, List.setIfInBounds_toArray, List.set_cons_zero, List.set_cons_succ])
            refine wpAnyT_take 12 (i := 3) (v := ?vvt16) (by (simp only [List.getElem?_toArray, List.getElem?_cons_zero, List.getElem?_cons_succ]) <;> rfl) (by kernel_rfl) (by kernel_rfl) (by kernel_rfl) (by kernel_rfl) (by kernel_rfl) (by rfl) ?hqt16 (Or.inl ⟨by rfl, ?hyt16⟩) (by assumption) ?_
            case hqt16 => exact fun _ _ _ h => h
            case hyt16 => ((intro w hSw; (try dsimp only at hSw); go_simp) <;> (with_reducible rfl))
            (try simp only [Act.put, List.setIfInBounds_toArray, List.set_cons_zero, List.set_cons_succ])
            refine wpAnyT_take 12 (i := 5) (v := ?vvt17) (by (simp only [List.getElem?_toArray, List.getElem?_cons_zero, List.getElem?_cons_succ]) <;> rfl) (by kernel_rfl) (by kernel_rfl) (by kernel_rfl) (by kernel_rfl) (by kernel_rfl) (by rfl) ?hqt17 (Or.inl ⟨by rfl, ?hyt17⟩) (by assumption) ?_
            case hqt17 => exact fun _ _ _ h => h
            case hyt17 => ((intro w hSw; (try dsimp only at hSw); go_simp) <;> (with_reducible rfl))
            (try simp only [Act.put, List.setIfInBounds_toArray, List.set_cons_zero, List.set_cons_succ])
            refine wpAnyT_take 12 (i := 6) (v := ?vvt18) (by (simp only [List.getElem?_toArray, List.getElem?_cons_zero, List.getElem?_cons_succ]) <;> rfl) (by kernel_rfl) (by kernel_rfl) (by kernel_rfl) (by kernel_rfl) (by kernel_rfl) (by rfl) ?hqt18 (Or.inl ⟨by rfl, ?hyt18⟩) (by assumption) ?_
            case hqt18 => exact fun _ _ _ h => h
            case hyt18 => ((intro w hSw; (try dsimp only at hSw); go_simp) <;> (with_reducible rfl))
            (try simp only [Act.put, List.setIfInBounds_toArray, List.set_cons_zero, List.set_cons_succ])
            refine wpAnyT_take 12 (i := 7) (v := ?vvt19) (by (simp only [List.getElem?_toArray, List.getElem?_cons_zero, List.getElem?_cons_succ]) <;> rfl) (by kernel_rfl) (by kernel_rfl) (by kernel_rfl) (by kernel_rfl) (by kernel_rfl) (by rfl) ?hqt19 (Or.inl ⟨by rfl, ?hyt19⟩) (by assumption) ?_
            case hqt19 => exact fun _ _ _ h => h
            case hyt19 => ((intro w hSw; (try dsimp only at hSw); go_simp) <;> (with_reducible rfl))
            (try simp only [Act.put, List.setIfInBounds_toArray, List.set_cons_zero, List.set_cons_succ])
            refine wpAnyT_take 12 (i := 8) (v := ?vvt20) (by (simp only [List.getElem?_toArray, List.getElem?_cons_zero, List.getElem?_cons_succ]) <;> rfl) (by kernel_rfl) (by kernel_rfl) (by kernel_rfl) (by kernel_rfl) (by kernel_rfl) (by rfl) ?hqt20 (Or.inl ⟨by rfl, ?hyt20⟩) (by assumption) ?_
            case hqt20 => exact fun _ _ _ h => h
            case hyt20 => ((intro w hSw; (try dsimp only at hSw); go_simp) <;> (with_reducible rfl))
            (try simp only [Act.put, List.setIfInBounds_toArray, List.set_cons_zero, List.set_cons_succ])
            refine wpAnyT_take 12 (i := 9) (v := ?vvt21) (by (simp only [List.getElem?_toArray, List.getElem?_cons_zero, List.getElem?_cons_succ]) <;> rfl) (by kernel_rfl) (by kernel_rfl) (by kernel_rfl) (by kernel_rfl) (by kernel_rfl) (by rfl) ?hqt21 (Or.inl ⟨by rfl, ?hyt21⟩) (by assumption) ?_
            case hqt21 => exact fun _ _ _ h => h
            case hyt21 => ((intro w hSw; (try dsimp only at hSw); go_simp) <;> (with_reducible rfl))
            (try simp only [Act.put, List.setIfInBounds_toArray, List.set_cons_zero, List.set_cons_succ])
            refine wpAnyT_take 12 (i := 10) (v := ?vvt22) (by (simp only [List.getElem?_toArray, List.getElem?_cons_zero, List.getElem?_cons_succ]) <;> rfl) (by kernel_rfl) (by kernel_rfl) (by kernel_rfl) (by kernel_rfl) (by kernel_rfl) (by rfl) ?hqt22 (Or.inl ⟨by rfl, ?hyt22⟩) (by assumption) ?_
            case hqt22 => exact fun _ _ _ h => h
            case hyt22 => ((intro w hSw; (try dsimp only at hSw); go_simp) <;> (with_reducible rfl))
            (try simp only [Act.put, List.setIfInBounds_toArray, List.set_cons_zero, List.set_cons_succ])
            refine wpAnyT_take 12 (i := 11) (v := ?vvt23) (by (simp only [List.getElem?_toArray, List.getElem?_cons_zero, List.getElem?_cons_succ]) <;> rfl) (by kernel_rfl) (by kernel_rfl) (by kernel_rfl) (by kernel_rfl) (by kernel_rfl) (by rfl) ?hqt23 (Or.inl ⟨by rfl, ?hyt23⟩) (by assumption) ?_
            case hqt23 => exact fun _ _ _ h => h
            case hyt23 => ((intro w hSw; (try dsimp only at hSw); go_simp) <;> (with_reducible rfl))
            (try simp only [Act.put, List.setIfInBounds_toArray, List.set_cons_zero, List.set_cons_succ])
            refine wpAnyT_take 12 (i := 14) (v := ?vvt24) (by (simp only [List.getElem?_toArray, List.getElem?_cons_zero, List.getElem?_cons_succ]) <;> rfl) (by kernel_rfl) (by kernel_rfl) (by kernel_rfl) (by kernel_rfl) (by kernel_rfl) (by rfl) ?hqt24 (Or.inl ⟨by rfl, ?hyt24⟩) (by assumption) ?_
            case hqt24 => exact fun _ _ _ h => h
            case hyt24 => ((intro w hSw; (try dsimp only at hSw); go_simp) <;> (with_reducible rfl))
            (try simp only [Act.put, List.setIfInBounds_toArray, List.set_cons_zero, List.set_cons_succ])
            refine wpAnyT_take 12 (i := 15) (v := ?vvt25) (by (simp only [List.getElem?_toArray, List.getElem?_cons_zero, List.getElem?_cons_succ]) <;> rfl) (by kernel_rfl) (by kernel_rfl) (by kernel_rfl) (by kernel_rfl) (by kernel_rfl) (by rfl) ?hqt25 (Or.inl ⟨by rfl, ?hyt25⟩) (by assumption) ?_
            case hqt25 => exact fun _ _ _ h => h
            case hyt25 => ((intro w hSw; (try dsimp only at hSw); go_simp) <;> (with_reducible rfl))
            (try simp only [Act.put, List.setIfInBounds_toArray, List.set_cons_zero, List.set_cons_succ])
            refine wpAnyT_take 12 (i := 16) (v := ?vvt26) (by (simp only [List.getElem?_toArray, List.getElem?_cons_zero, List.getElem?_cons_succ]) <;> rfl) (by kernel_rfl) (by kernel_rfl) (by kernel_rfl) (by kernel_rfl) (by kernel_rfl) (by rfl) ?hqt26 (Or.inl ⟨by rfl, ?hyt26⟩) (by assumption) ?_
            case hqt26 => exact fun _ _ _ h => h
            case hyt26 => ((intro w hSw; (try dsimp only at hSw); go_simp) <;> (with_reducible rfl))
            (try simp only [Act.put, List.setIfInBounds_toArray, List.set_cons_zero, List.set_cons_succ])
            refine wpAnyT_ready (rs := [0, 12]) (by kernel_rfl) (by simp) ?_
            refine (AllReadyT.cons (by (simp only [List.getElem?_toArray, List.getElem?_cons_zero, List.getElem?_cons_succ]) <;> rfl) (fun K hK => ?_) (AllReadyT.cons (by (simp only [List.getElem?_toArray, List.getElem?_cons_zero, List.getElem?_cons_succ]) <;> rfl) (fun K hK => ?_) AllReadyT.nil))
            · rw [if_pos (by rfl)]
              refine wp_build0 29 35 3 rfl Try.underlying29 Try.sizeOf35 ?_
              intro W0 hB0 hb0
              have st := hide (S3.s0 st.out hB0 hb0)
              refine hK.out _ _ (hS8.out _ st.out.bl) (fun hHeld => ?_)
              (try clear hK K)
              (try simp only [Act.put, List.setIfInBounds_toArray, List.set_cons_zero, List.set_cons_succ])
              refine wpAnyT_ready (rs := [4, 12]) (by kernel_rfl) (by simp) ?_
              refine (AllReadyT.cons (by (simp only [List.getElem?_toArray, List.getElem?_cons_zero, List.getElem?_cons_succ]) <;> rfl) (fun K hK => ?_) (AllReadyT.cons (by (simp only [List.getElem?_toArray, List.getElem?_cons_zero, List.getElem?_cons_succ]) <;> rfl) (fun K hK => ?_) AllReadyT.nil))
              · rw [if_pos (by rfl)]
                refine wp_append_ex (.tmp 38) (.tmp 41) 29 rfl (.slice (some ⟨_, 0, none⟩) 0 0) (.slice (some ⟨g, 0, none⟩) 0 c) rfl rfl _ (S3.app st.out (some ⟨g, 0, none⟩) 0 c (xs.take (0 * 3)) htl.out ((hRv.out _ st.out.bl).take _) hto.out (by have := hi3.out; omega) (by simp)) ?_
                rintro v4 W4 st
                replace st := hide st
                refine hK.out _ _ (hS8.out _ st.out.bl) (fun hHeld => ?_)
                (try clear hK K)
                (try simp only [Act.put, List.setIfInBounds_toArray, List.set_cons_zero, List.set_cons_succ])
                refine wpAnyT_ready (rs := [12]) (by kernel_rfl) (by simp) ?_
                refine (AllReadyT.cons (by (simp only [List.getElem?_toArray, List.getElem?_cons_zero, List.getElem?_cons_succ]) <;> rfl) (fun K hK => ?_) AllReadyT.nil)
                rw [if_pos (by rfl)]
                refine wp_buildF 49 nk A' m c' rk rfl rfl ?_
                intro W12 hB12 hb12
                have st := hide (S3.s12 st.out hB12 hb12)
                refine hK.out _ _ (hS8.out _ st.out.bl) (fun hHeld => ?_)
                (try clear hK K)
                (try simp only [Act.put, List.setIfInBounds_toArray, List.set_cons_zero, List.set_cons_succ])
                refine wpAnyT_ready (rs := [13]) (by kernel_rfl) (by simp) ?_
                refine (AllReadyT.cons (by (simp only [List.getElem?_toArray, List.getElem?_cons_zero, List.getElem?_cons_succ]) <;> rfl) (fun K hK => ?_) AllReadyT.nil)
                rw [if_pos (by rfl)]
                refine wp_append_ex (.tmp 42) (.tmp 50) 29 rfl v4 (.slice (some ⟨_, 0, none⟩) 1 1) rfl rfl _ (S3.own st.out ⟨rfl, rfl, rfl⟩ (by have := hi3.out; omega)) ?_
                rintro v13 W13 st
                replace st := hide st
                refine hK.out _ _ (hS8.out _ st.out.bl) (fun hHeld => ?_)
                (try clear hK K)
                (try simp only [Act.put, List.setIfInBounds_toArray, List.set_cons_zero, List.set_cons_succ])
                refine wpAnyT_ready (rs := [17]) (by kernel_rfl) (by simp) ?_
                refine (AllReadyT.cons (by (simp only [List.getElem?_toArray, List.getElem?_cons_zero, List.getElem?_cons_succ]) <;> rfl) (fun K hK => ?_) AllReadyT.nil)
                rw [if_pos (by rfl)]
                refine wp_append_ex (.tmp 51) (.tmp 54) 29 rfl v13 (.slice (some ⟨g, 0, none⟩) i c) rfl rfl _ (S3.app st.out (some ⟨g, 0, none⟩) i c (xs.drop (0 * 3)) hdl.out ((hRv.out _ st.out.bl).drop (0 * 3)) hdo.out (by have := hi3.out; omega) (by simp)) ?_
                rintro v17 W17 st
                obtain ⟨hAl, A9, c9, rfl⟩ := hst.out _ _ _ _ (by simpa using st)
                replace st := hide st
                replace hAl := hide hAl
                refine hK.out _ _ (hS8.out _ st.out.bl) (fun hHeld => ?_)
                (try clear hK K)
                (try simp only [Act.put, List.setIfInBounds_toArray, List.set_cons_zero, List.set_cons_succ])
                refine wpAnyT_ready (rs := [18]) (by kernel_rfl) (by simp) ?_
                refine (AllReadyT.last (by (simp only [List.getElem?_toArray, List.getElem?_cons_zero, List.getElem?_cons_succ]) <;> rfl) (by kernel_rfl) (fun K hK => ?_) AllReadyT.nil)
                go_simp
                refine hK.out _ _ ?_
                (try clear hK K)
                (try simp only [Act.put, List.setIfInBounds_toArray, List.set_cons_zero, List.set_cons_succ])
                refine wpAnyT_done (by kernel_rfl) ?_ _
                (try clear hHeld)
                (try go_wp2)
                go_roundw
                all_goals (try simp only [Array.getD_eq_getD_getElem?, List.getElem?_toArray, List.getElem?_cons_succ, List.getElem?_cons_zero, Option.getD_some])
                case rel => exact ⟨i + 1, A9, c9, by omega, fun h => by omega, rfl, by go_num, hAl.out⟩
                case measure => simp [intOf]; omega
              · rw [if_pos (by rfl)]
                refine wp_buildF 49 nk A' m c' rk rfl rfl ?_
                intro W12 hB12 hb12
                have st := hide (S3.s12 st.out hB12 hb12)
                refine hK.out _ _ (hS8.out _ st.out.bl) (fun hHeld => ?_)
                (try clear hK K)
                (try simp only [Act.put, List.setIfInBounds_toArray, List.set_cons_zero, List.set_cons_succ])
                refine wpAnyT_ready (rs := [4]) (by kernel_rfl) (by simp) ?_
                refine (AllReadyT.cons (by (simp only [List.getElem?_toArray, List.getElem?_cons_zero, List.getElem?_cons_succ]) <;> rfl) (fun K hK => ?_) AllReadyT.nil)
                rw [if_pos (by rfl)]
                refine wp_append_ex (.tmp 38) (.tmp 41) 29 rfl (.slice (some ⟨_, 0, none⟩) 0 0) (.slice (some ⟨g, 0, none⟩) 0 c) rfl rfl _ (S3.app st.out (some ⟨g, 0, none⟩) 0 c (xs.take (0 * 3)) htl.out ((hRv.out _ st.out.bl).take _) hto.out (by have := hi3.out; omega) (by simp)) ?_
                rintro v4 W4 st
                replace st := hide st
                refine hK.out _ _ (hS8.out _ st.out.bl) (fun hHeld => ?_)
                (try clear hK K)
                (try simp only [Act.put, List.setIfInBounds_toArray, List.set_cons_zero, List.set_cons_succ])
                refine wpAnyT_ready (rs := [13]) (by kernel_rfl) (by simp) ?_
                refine (AllReadyT.cons (by (simp only [List.getElem?_toArray, List.getElem?_cons_zero, List.getElem?_cons_succ]) <;> rfl) (fun K hK => ?_) AllReadyT.nil)
                rw [if_pos (by rfl)]
                refine wp_append_ex (.tmp 42) (.tmp 50) 29 rfl v4 (.slice (some ⟨_, 0, none⟩) 1 1) rfl rfl _ (S3.own st.out ⟨rfl, rfl, rfl⟩ (by have := hi3.out; omega)) ?_
                rintro v13 W13 st
                replace st := hide st
                refine hK.out _ _ (hS8.out _ st.out.bl) (fun hHeld => ?_)
                (try clear hK K)
                (try simp only [Act.put, List.setIfInBounds_toArray, List.set_cons_zero, List.set_cons_succ])
                refine wpAnyT_ready (rs := [17]) (by kernel_rfl) (by simp) ?_
                refine (AllReadyT.cons (by (simp only [List.getElem?_toArray, List.getElem?_cons_zero, List.getElem?_cons_succ]) <;> rfl) (fun K hK => ?_) AllReadyT.nil)
                rw [if_pos (by rfl)]
                refine wp_append_ex (.tmp 51) (.tmp 54) 29 rfl v13 (.slice (some ⟨g, 0, none⟩) i c) rfl rfl _ (S3.app st.out (some ⟨g, 0, none⟩) i c (xs.drop (0 * 3)) hdl.out ((hRv.out _ st.out.bl).drop (0 * 3)) hdo.out (by have := hi3.out; omega) (by simp)) ?_
                rintro v17 W17 st
                obtain ⟨hAl, A9, c9, rfl⟩ := hst.out _ _ _ _ (by simpa using st)
                replace st := hide st
                replace hAl := hide hAl
                refine hK.out _ _ (hS8.out _ st.out.bl) (fun hHeld => ?_)
                (try clear hK K)
                (try simp only [Act.put, List.setIfInBounds_toArray, List.set_cons_zero, List.set_cons_succ])
                refine wpAnyT_ready (rs := [18]) (by kernel_rfl) (by simp) ?_
                refine (AllReadyT.last (by (simp only [List.getElem?_toArray, List.getElem?_cons_zero, List.getElem?_cons_succ]) <;> rfl) (by kernel_rfl) (fun K hK => ?_) AllReadyT.nil)
                go_simp
                refine hK.out _ _ ?_
                (try clear hK K)
                (try simp only [Act.put, List.setIfInBounds_toArray, List.set_cons_zero, List.set_cons_succ])
                refine wpAnyT_done (by kernel_rfl) ?_ _
                (try clear hHeld)
                (try go_wp2)
                go_roundw
                all_goals (try simp only [Array.getD_eq_getD_getElem?, List.getElem?_toArray, List.getElem?_cons_succ, List.getElem?_cons_zero, Option.getD_some])
                case rel => exact ⟨i + 1, A9, c9, by omega, fun h => by omega, rfl, by go_num, hAl.out⟩
                case measure => simp [intOf]; omega
            · rw [if_pos (by rfl)]
              refine wp_buildF 49 nk A' m c' rk rfl rfl ?_
              intro W12 hB12 hb12
              have st := hide (S3.s12 st.out hB12 hb12)
              refine hK.out _ _ (hS8.out _ st.out.bl) (fun hHeld => ?_)
              (try clear hK K)
              (try simp only [Act.put, List.setIfInBounds_toArray, List.set_cons_zero, List.set_cons_succ])
              refine wpAnyT_ready (rs := [0]) (by kernel_rfl) (by simp) ?_
              refine (AllReadyT.cons (by (simp only [List.getElem?_toArray, List.getElem?_cons_zero, List.getElem?_cons_succ]) <;> rfl) (fun K hK => ?_) AllReadyT.nil)
              rw [if_pos (by rfl)]
              refine wp_build0 29 35 3 rfl Try.underlying29 Try.sizeOf35 ?_
              intro W0 hB0 hb0
              have st := hide (S3.s0 st.out hB0 hb0)
              refine hK.out _ _ (hS8.out _ st.out.bl) (fun hHeld => ?_)
              (try clear hK K)
              (try simp only [Act.put, List.setIfInBounds_toArray, List.set_cons_zero, List.set_cons_succ])
              refine wpAnyT_ready (rs := [4]) (by kernel_rfl) (by simp) ?_
              refine (AllReadyT.cons (by (simp only [List.getElem?_toArray, List.getElem?_cons_zero, List.getElem?_cons_succ]) <;> rfl) (fun K hK => ?_) AllReadyT.nil)
              rw [if_pos (by rfl)]
              refine wp_append_ex (.tmp 38) (.tmp 41) 29 rfl (.slice (some ⟨_, 0, none⟩) 0 0) (.slice (some ⟨g, 0, none⟩) 0 c) rfl rfl _ (S3.app st.out (some ⟨g, 0, none⟩) 0 c (xs.take (0 * 3)) htl.out ((hRv.out _ st.out.bl).take _) hto.out (by have := hi3.out; omega) (by simp)) ?_
              rintro v4 W4 st
              replace st := hide st
              refine hK.out _ _ (hS8.out _ st.out.bl) (fun hHeld => ?_)
              (try clear hK K)
              (try simp only [Act.put, List.setIfInBounds_toArray, List.set_cons_zero, List.set_cons_succ])
              refine wpAnyT_ready (rs := [13]) (by kernel_rfl) (by simp) ?_
              refine (AllReadyT.cons (by (simp only [List.getElem?_toArray, List.getElem?_cons_zero, List.getElem?_cons_succ]) <;> rfl) (fun K hK => ?_) AllReadyT.nil)
              rw [if_pos (by rfl)]
              refine wp_append_ex (.tmp 42) (.tmp 50) 29 rfl v4 (.slice (some ⟨_, 0, none⟩) 1 1) rfl rfl _ (S3.own st.out ⟨rfl, rfl, rfl⟩ (by have := hi3.out; omega)) ?_
              rintro v13 W13 st
              replace st := hide st
              refine hK.out _ _ (hS8.out _ st.out.bl) (fun hHeld => ?_)
              (try clear hK K)
              (try simp only [Act.put, List.setIfInBounds_toArray, List.set_cons_zero, List.set_cons_succ])
              refine wpAnyT_ready (rs := [17]) (by kernel_rfl) (by simp) ?_
              refine (AllReadyT.cons (by (simp only [List.getElem?_toArray, List.getElem?_cons_zero, List.getElem?_cons_succ]) <;> rfl) (fun K hK => ?_) AllReadyT.nil)
              rw [if_pos (by rfl)]
              refine wp_append_ex (.tmp 51) (.tmp 54) 29 rfl v13 (.slice (some ⟨g, 0, none⟩) i c) rfl rfl _ (S3.app st.out (some ⟨g, 0, none⟩) i c (xs.drop (0 * 3)) hdl.out ((hRv.out _ st.out.bl).drop (0 * 3)) hdo.out (by have := hi3.out; omega) (by simp)) ?_
              rintro v17 W17 st
              obtain ⟨hAl, A9, c9, rfl⟩ := hst.out _ _ _ _ (by simpa using st)
              replace st := hide st
              replace hAl := hide hAl
              refine hK.out _ _ (hS8.out _ st.out.bl) (fun hHeld => ?_)
              (try clear hK K)
              (try simp only [Act.put, List.setIfInBounds_toArray, List.set_cons_zero, List.set_cons_succ])
              refine wpAnyT_ready (rs := [18]) (by kernel_rfl) (by simp) ?_
              refine (AllReadyT.last (by (simp only [List.getElem?_toArray, List.getElem?_cons_zero, List.getElem?_cons_succ]) <;> rfl) (by kernel_rfl) (fun K hK => ?_) AllReadyT.nil)
              go_simp
              refine hK.out _ _ ?_
              (try clear hK K)
              (try simp only [Act.put, List.setIfInBounds_toArray, List.set_cons_zero, List.set_cons_succ])
              refine wpAnyT_done (by kernel_rfl) ?_ _
              (try clear hHeld)
              (try go_wp2)
              go_roundw
              all_goals (try simp only [Array.getD_eq_getD_getElem?, List.getElem?_toArray, List.getElem?_cons_succ, List.getElem?_cons_zero, Option.getD_some])
              case rel => exact ⟨i + 1, A9, c9, by omega, fun h => by omega, rfl, by go_num, hAl.out⟩
              case measure => simp [intOf]; omega
          · obtain ⟨q, hq⟩ : ∃ q, q + 1 = k := ⟨k - 1, by omega⟩
            obtain ⟨g', e', hcell⟩ := hlc.out q (by omega)
            cases e'
            have c0 := hcell _ hbx.out
            clear hcell
            have hkp : decide ((0 : Int) < (k : Int)) = true := decide_eq_true (by omega)
            have hkp2 : decide (0 < k) = true := decide_eq_true (by omega)
            have hkp3 : 0 < k := by omega
            have hqc : q < i := by omega
            have hsub : binOp .sub 3 (.int .i64 (k : Int)) (.int .i64 1) = pure (.int .i64 (q : Int)) := sub_i _ k 1 q hq (by omega)
            have hql : q < l.length := by have := hl.out; omega
            have egt := gtr_s 9 (l[q]'hql).nm nk
            by_cases hlt : nk.data.toList < (l[q]'hql).nm.data.toList
            · rw [decide_eq_true hlt] at egt
              have hgt2 := hide (show ∀ j (h1 : q ≤ j) (hj : j < l.length), nk.data.toList < l[j].nm.data.toList from fun j h1 hj => by
                by_cases e : j = q
                · subst e; exact hlt
                · exact hgt.out j (by omega) hj)
              replace hlt := hide hlt
              replace hq := hide hq
              generalize (l[q]'hql).nm = nmq at *
              go_wp2
              go_quiet (fail)
              go_wp2
              go_roundw
              all_goals (try simp only [Array.getD_eq_getD_getElem?, List.getElem?_toArray, List.getElem?_cons_succ, List.getElem?_cons_zero, Option.getD_some])
              case rel => exact ⟨q, by have := hq.out; omega, rfl, hgt2.out, hbx.out.trans ((bel_dM wr _).mono hbx.out.size)⟩
              case measure => simp [intOf]; have := hq.out; omega
            · rw [decide_eq_false hlt] at egt
              have hle2 : k = 0 ∨ ∃ hj : k - 1 < l.length, ¬ nk.data.toList < l[k - 1].nm.data.toList := by subst hq; exact .inr ⟨hql, hlt⟩
              replace hle2 := hide hle2
              replace hlt := hide hlt
              replace hq := hide hq
              generalize (l[q]'hql).nm = nmq at *
              go_wp2
              go_quiet (fail)
              by_cases hkc : k < c
              · have hst := hide (hstep.out k (by omega) hgt.out hle2.out)
                have htl := hide (show (xs.take (k * 3)).length = k * 3 by first | rfl | (rw [List.length_take, hxl.out]; omega))
                have hdl := hide (show (xs.drop (k * 3)).length = (i - k) * 3 by first | rfl | (rw [List.length_drop, hxl.out]; omega))
                have hto := hide (show ∀ u ∈ xs.take (k * 3), u.oneCell' = true from fun u hu => hone.out u (List.mem_of_mem_take hu))
                have hdo := hide (show ∀ u ∈ xs.drop (k * 3), u.oneCell' = true from fun u hu => hone.out u (List.mem_of_mem_drop hu))
                have hkc2 : k ≤ c := by omega
                have hck : (c = k) = False := eq_false (by omega)
                go_wp2
                obtain ⟨W8, hW8⟩ : ∃ W, W = wr.drewN nq := ⟨_, rfl⟩
                rw [← hW8]
                have st := hide (S3.start (w2 := w1) (W := W8.drew) #[.string nk, .slice A' m c', .int .i64 rk] (by rw [hW8]; exact hbx.out.trans ((bel_dN wr nq).mono hbx.out.size)))
                replace hW8 := hide hW8
                refine wp_region_T (fun W => W.cell? ⟨r, 1, none⟩ = some (.slice (some ⟨b, o, none⟩) n cF) ∧ W.cell? ⟨b, o + i * 3, none⟩ = some (.string nk) ∧ W.cell? ⟨b, o + i * 3 + 1, none⟩ = some (.slice A' m c') ∧ W.cell? ⟨b, o + i * 3 + 2, none⟩ = some (.int .i64 rk)) 18 (by kernel_rfl) (hS8.out _ st.out.bl) (fun hHeld => ?_)
                refine wpAnyT_take 12 (i := 1) (v := ?vvt27) (by (simp only [List.getElem?_toArray, List.getElem?_cons_zero, List.getElem?_cons_succ]) <;> rfl) (by kernel_rfl) (by kernel_rfl) (by kernel_rfl) (by kernel_rfl) (by kernel_rfl) (by rfl) ?hqt27 (Or.inl ⟨by rfl, ?hyt27⟩) (by assumption) ?_
                case hqt27 => exact fun _ _ _ h => h
                case hyt27 => ((intro w hSw; (try dsimp only at hSw); go_simp) <;> (with_reducible rfl))
                (try simp only [Act.put, List.setIfInBounds_toArray, List.set_cons_zero, List.set_cons_succ])
                refine wpAnyT_take 12 (i := 2) (v := ?vvt28) (by (simp only [List.getElem?_toArray, List.getElem?_cons_zero, List.getElem?_cons_succ]) <;> rfl) (by kernel_rfl) (by kernel_rfl) (by kernel_rfl) (by kernel_rfl) (by kernel_rfl) (by rfl) ?hqt28 (Or.inl ⟨by rfl, ?hyt28⟩) (by assumption) ?_
                case hqt28 => exact fun _ _ _ h => h
                case hyt28 => ((intro w hSw; (try dsimp only at hSw); go_simp) <;> (with_reducible rfl))
                (try simp only [Act.put, List.setIfInBounds_toArray, List.set_cons_zero, List.set_cons_succ])
                refine wpAnyT_take 12 (i := 3) (v := ?vvt29) (by (simp only [List.getElem?_toArray, List.getElem?_cons_zero, List.getElem?_cons_succ]) <;> rfl) (by kernel_rfl) (by kernel_rfl) (by kernel_rfl) (by kernel_rfl) (by kernel_rfl) (by rfl) ?hqt29 (Or.inl ⟨by rfl, ?hyt29⟩) (by assumption) ?_
                case hqt29 => exact fun _ _ _ h => h
                case hyt29 => ((intro w hSw; (try dsimp only at hSw); go_simp) <;> (with_reducible rfl))
                (try simp only [Act.put, List.setIfInBounds_toArray, List.set_cons_zero, List.set_cons_succ])
                refine wpAnyT_take 12 (i := 5) (v := ?vvt30) (by (simp only [List.getElem?_toArray, List.getElem?_cons_zero, List.getElem?_cons_succ]) <;> rfl) (by kernel_rfl) (by kernel_rfl) (by kernel_rfl) (by kernel_rfl) (by kernel_rfl) (by rfl) ?hqt30 (Or.inl ⟨by rfl, ?hyt30⟩) (by assumption) ?_
                case hqt30 => exact fun _ _ _ h => h
                case hyt30 => ((intro w hSw; (try dsimp only at hSw); go_simp) <;> (with_reducible rfl))
                (try simp only [Act.put, List.setIfInBounds_toArray, List.set_cons_zero, List.set_cons_succ])
                refine wpAnyT_take 12 (i := 6) (v := ?vvt31) (by (simp only [List.getElem?_toArray, List.getElem?_cons_zero, List.getElem?_cons_succ]) <;> rfl) (by kernel_rfl) (by kernel_rfl) (by kernel_rfl) (by kernel_rfl) (by kernel_rfl) (by rfl) ?hqt31 (Or.inl ⟨by rfl, ?hyt31⟩) (by assumption) ?_
                case hqt31 => exact fun _ _ _ h => h
                case hyt31 => ((intro w hSw; (try dsimp only at hSw); go_simp) <;> (with_reducible rfl))
                (try simp only [Act.put, List.setIfInBounds_toArray, List.set_cons_zero, List.set_cons_succ])
                refine wpAnyT_take 12 (i := 7) (v := ?vvt32) (by (simp only [List.getElem?_toArray, List.getElem?_cons_zero, List.getElem?_cons_succ]) <;> rfl) (by kernel_rfl) (by kernel_rfl) (by kernel_rfl) (by kernel_rfl) (by kernel_rfl) (by rfl) ?hqt32 (Or.inl ⟨by rfl, ?hyt32⟩) (by assumption) ?_
                case hqt32 => exact fun _ _ _ h => h
                case hyt32 => ((intro w hSw; (try dsimp only at hSw); go_simp) <;> (with_reducible rfl))
                (try simp only [Act.put, List.setIfInBounds_toArray, List.set_cons_zero, List.set_cons_succ])
                refine wpAnyT_take 12 (i := 8) (v := ?vvt33) (by (simp only [List.getElem?_toArray, List.getElem?_cons_zero, List.getElem?_cons_succ]) <;> rfl) (by kernel_rfl) (by kernel_rfl) (by kernel_rfl) (by kernel_rfl) (by kernel_rfl) (by rfl) ?hqt33 (Or.inl ⟨by rfl, ?hyt33⟩) (by assumption) ?_
                case hqt33 => exact fun _ _ _ h => h
                case hyt33 => ((intro w hSw; (try dsimp only at hSw); go_simp) <;> (with_reducible rfl))
                (try simp only [Act.put, List.setIfInBounds_toArray, List.set_cons_zero, List.set_cons_succ])
                refine wpAnyT_take 12 (i := 9) (v := ?vvt34) (by (simp only [List.getElem?_toArray, List.getElem?_cons_zero, List.getElem?_cons_succ]) <;> rfl) (by kernel_rfl) (by kernel_rfl) (by kernel_rfl) (by kernel_rfl) (by kernel_rfl) (by rfl) ?hqt34 (Or.inl ⟨by rfl, ?hyt34⟩) (by assumption) ?_
                case hqt34 => exact fun _ _ _ h => h
                case hyt34 => ((intro w hSw; (try dsimp only at hSw); go_simp) <;> (with_reducible rfl))
                (try simp only [Act.put, List.setIfInBounds_toArray, List.set_cons_zero, List.set_cons_succ])
                refine wpAnyT_take 12 (i := 10) (v := ?vvt35) (by (simp only [List.getElem?_toArray, List.getElem?_cons_zero, List.getElem?_cons_succ]) <;> rfl) (by kernel_rfl) (by kernel_rfl) (by kernel_rfl) (by kernel_rfl) (by kernel_rfl) (by rfl) ?hqt35 (Or.inl ⟨by rfl, ?hyt35⟩) (by assumption) ?_
                case hqt35 => exact fun _ _ _ h => h
                case hyt35 => ((intro w hSw; (try dsimp only at hSw); go_simp) <;> (with_reducible rfl))
                (try simp only [Act.put, List.setIfInBounds_toArray, List.set_cons_zero, List.set_cons_succ])
                refine wpAnyT_take 12 (i := 11) (v := ?vvt36) (by (simp only [List.getElem?_toArray, List.getElem?_cons_zero, List.getElem?_cons_succ]) <;> rfl) (by kernel_rfl) (by kernel_rfl) (by kernel_rfl) (by kernel_rfl) (by kernel_rfl) (by rfl) ?hqt36 (Or.inl ⟨by rfl, ?hyt36⟩) (by assumption) ?_
                case hqt36 => exact fun _ _ _ h => h
                case hyt36 => ((intro w hSw; (try dsimp only at hSw); go_simp) <;> (with_reducible rfl))
                (try simp only [Act.put, List.setIfInBounds_toArray, List.set_cons_zero, List.set_cons_succ])
                refine wpAnyT_take 12 (i := 14) (v := ?vvt37) (by (simp only [List.getElem?_toArray, List.getElem?_cons_zero, List.getElem?_cons_succ]) <;> rfl) (by kernel_rfl) (by kernel_rfl) (by kernel_rfl) (by kernel_rfl) (by kernel_rfl) (by rfl) ?hqt37 (Or.inl ⟨by rfl, ?hyt37⟩) (by assumption) ?_
                case hqt37 => exact fun _ _ _ h => h
                case hyt37 => ((intro w hSw; (try dsimp only at hSw); go_simp) <;> (with_reducible rfl))
                (try simp only [Act.put, List.setIfInBounds_toArray, List.set_cons_zero, List.set_cons_succ])
                refine wpAnyT_take 12 (i := 15) (v := ?vvt38) (by (simp only [List.getElem?_toArray, List.getElem?_cons_zero, List.getElem?_cons_succ]) <;> rfl) (by kernel_rfl) (by kernel_rfl) (by kernel_rfl) (by kernel_rfl) (by kernel_rfl) (by rfl) ?hqt38 (Or.inl ⟨by rfl, ?hyt38⟩) (by assumption) ?_
                case hqt38 => exact fun _ _ _ h => h
                case hyt38 => ((intro w hSw; (try dsimp only at hSw); go_simp) <;> (with_reducible rfl))
                (try simp only [Act.put, List.setIfInBounds_toArray, List.set_cons_zero, List.set_cons_succ])
                refine wpAnyT_take 12 (i := 16) (v := ?vvt39) (by (simp only [List.getElem?_toArray, List.getElem?_cons_zero, List.getElem?_cons_succ]) <;> rfl) (by kernel_rfl) (by kernel_rfl) (by kernel_rfl) (by kernel_rfl) (by kernel_rfl) (by rfl) ?hqt39 (Or.inl ⟨by rfl, ?hyt39⟩) (by assumption) ?_
                case hqt39 => exact fun _ _ _ h => h
                case hyt39 => ((intro w hSw; (try dsimp only at hSw); go_simp) <;> (with_reducible rfl))
                (try simp only [Act.put, List.setIfInBounds_toArray, List.set_cons_zero, List.set_cons_succ])
                refine wpAnyT_ready (rs := [0, 12]) (by kernel_rfl) (by simp) ?_
                refine (AllReadyT.cons (by (simp only [List.getElem?_toArray, List.getElem?_cons_zero, List.getElem?_cons_succ]) <;> rfl) (fun K hK => ?_) (AllReadyT.cons (by (simp only [List.getElem?_toArray, List.getElem?_cons_zero, List.getElem?_cons_succ]) <;> rfl) (fun K hK => ?_) AllReadyT.nil))
                · rw [if_pos (by rfl)]
                  refine wp_build0 29 35 3 rfl Try.underlying29 Try.sizeOf35 ?_
                  intro W0 hB0 hb0
                  have st := hide (S3.s0 st.out hB0 hb0)
                  refine hK.out _ _ (hS8.out _ st.out.bl) (fun hHeld => ?_)
                  (try clear hK K)
                  (try simp only [Act.put, List.setIfInBounds_toArray, List.set_cons_zero, List.set_cons_succ])
                  refine wpAnyT_ready (rs := [4, 12]) (by kernel_rfl) (by simp) ?_
                  refine (AllReadyT.cons (by (simp only [List.getElem?_toArray, List.getElem?_cons_zero, List.getElem?_cons_succ]) <;> rfl) (fun K hK => ?_) (AllReadyT.cons (by (simp only [List.getElem?_toArray, List.getElem?_cons_zero, List.getElem?_cons_succ]) <;> rfl) (fun K hK => ?_) AllReadyT.nil))
                  · rw [if_pos (by rfl)]
                    refine wp_append_ex (.tmp 38) (.tmp 41) 29 rfl (.slice (some ⟨_, 0, none⟩) 0 0) (.slice (some ⟨g, 0, none⟩) k c) rfl rfl _ (S3.app st.out (some ⟨g, 0, none⟩) k c (xs.take (k * 3)) htl.out ((hRv.out _ st.out.bl).take _) hto.out (by have := hi3.out; omega) (by simp)) ?_
                    rintro v4 W4 st
                    replace st := hide st
                    refine hK.out _ _ (hS8.out _ st.out.bl) (fun hHeld => ?_)
                    (try clear hK K)
                    (try simp only [Act.put, List.setIfInBounds_toArray, List.set_cons_zero, List.set_cons_succ])
                    refine wpAnyT_ready (rs := [12]) (by kernel_rfl) (by simp) ?_
                    refine (AllReadyT.cons (by (simp only [List.getElem?_toArray, List.getElem?_cons_zero, List.getElem?_cons_succ]) <;> rfl) (fun K hK => ?_) AllReadyT.nil)
                    rw [if_pos (by rfl)]
                    refine wp_buildF 49 nk A' m c' rk rfl rfl ?_
                    intro W12 hB12 hb12
                    have st := hide (S3.s12 st.out hB12 hb12)
                    refine hK.out _ _ (hS8.out _ st.out.bl) (fun hHeld => ?_)
                    (try clear hK K)
                    (try simp only [Act.put, List.setIfInBounds_toArray, List.set_cons_zero, List.set_cons_succ])
                    refine wpAnyT_ready (rs := [13]) (by kernel_rfl) (by simp) ?_
                    refine (AllReadyT.cons (by (simp only [List.getElem?_toArray, List.getElem?_cons_zero, List.getElem?_cons_succ]) <;> rfl) (fun K hK => ?_) AllReadyT.nil)
                    rw [if_pos (by rfl)]
                    refine wp_append_ex (.tmp 42) (.tmp 50) 29 rfl v4 (.slice (some ⟨_, 0, none⟩) 1 1) rfl rfl _ (S3.own st.out ⟨rfl, rfl, rfl⟩ (by have := hi3.out; omega)) ?_
                    rintro v13 W13 st
                    replace st := hide st
                    refine hK.out _ _ (hS8.out _ st.out.bl) (fun hHeld => ?_)
                    (try clear hK K)
                    (try simp only [Act.put, List.setIfInBounds_toArray, List.set_cons_zero, List.set_cons_succ])
                    refine wpAnyT_ready (rs := [17]) (by kernel_rfl) (by simp) ?_
                    refine (AllReadyT.cons (by (simp only [List.getElem?_toArray, List.getElem?_cons_zero, List.getElem?_cons_succ]) <;> rfl) (fun K hK => ?_) AllReadyT.nil)
                    rw [if_pos (by rfl)]
                    refine wp_append_ex (.tmp 51) (.tmp 54) 29 rfl v13 (.slice (some ⟨g, k * 3, none⟩) (i - k) (c - k)) rfl rfl _ (S3.app st.out (some ⟨g, k * 3, none⟩) (i - k) (c - k) (xs.drop (k * 3)) hdl.out (by have q := (hRv.out _ st.out.bl).drop (k * 3); rwa [Nat.zero_add] at q) hdo.out (by have := hi3.out; omega) (by simp)) ?_
                    rintro v17 W17 st
                    obtain ⟨hAl, A9, c9, rfl⟩ := hst.out _ _ _ _ (by simpa using st)
                    replace st := hide st
                    replace hAl := hide hAl
                    refine hK.out _ _ (hS8.out _ st.out.bl) (fun hHeld => ?_)
                    (try clear hK K)
                    (try simp only [Act.put, List.setIfInBounds_toArray, List.set_cons_zero, List.set_cons_succ])
                    refine wpAnyT_ready (rs := [18]) (by kernel_rfl) (by simp) ?_
                    refine (AllReadyT.last (by (simp only [List.getElem?_toArray, List.getElem?_cons_zero, List.getElem?_cons_succ]) <;> rfl) (by kernel_rfl) (fun K hK => ?_) AllReadyT.nil)
                    go_simp
                    refine hK.out _ _ ?_
                    (try clear hK K)
                    (try simp only [Act.put, List.setIfInBounds_toArray, List.set_cons_zero, List.set_cons_succ])
                    refine wpAnyT_done (by kernel_rfl) ?_ _
                    (try clear hHeld)
                    (try go_wp2)
                    go_roundw
                    all_goals (try simp only [Array.getD_eq_getD_getElem?, List.getElem?_toArray, List.getElem?_cons_succ, List.getElem?_cons_zero, Option.getD_some])
                    case rel => exact ⟨i + 1, A9, c9, by omega, fun h => by omega, rfl, by go_num, hAl.out⟩
                    case measure => simp [intOf]; omega
                  · rw [if_pos (by rfl)]
                    refine wp_buildF 49 nk A' m c' rk rfl rfl ?_
                    intro W12 hB12 hb12
                    have st := hide (S3.s12 st.out hB12 hb12)
                    refine hK.out _ _ (hS8.out _ st.out.bl) (fun hHeld => ?_)
                    (try clear hK K)
                    (try simp only [Act.put, List.setIfInBounds_toArray, List.set_cons_zero, List.set_cons_succ])
                    refine wpAnyT_ready (rs := [4]) (by kernel_rfl) (by simp) ?_
                    refine (AllReadyT.cons (by (simp only [List.getElem?_toArray, List.getElem?_cons_zero, List.getElem?_cons_succ]) <;> rfl) (fun K hK => ?_) AllReadyT.nil)
                    rw [if_pos (by rfl)]
                    refine wp_append_ex (.tmp 38) (.tmp 41) 29 rfl (.slice (some ⟨_, 0, none⟩) 0 0) (.slice (some ⟨g, 0, none⟩) k c) rfl rfl _ (S3.app st.out (some ⟨g, 0, none⟩) k c (xs.take (k * 3)) htl.out ((hRv.out _ st.out.bl).take _) hto.out (by have := hi3.out; omega) (by simp)) ?_
                    rintro v4 W4 st
                    replace st := hide st
                    refine hK.out _ _ (hS8.out _ st.out.bl) (fun hHeld => ?_)
                    (try clear hK K)
                    (try simp only [Act.put, List.setIfInBounds_toArray, List.set_cons_zero, List.set_cons_succ])
                    refine wpAnyT_ready (rs := [13]) (by kernel_rfl) (by simp) ?_
                    refine (AllReadyT.cons (by (simp only [List.getElem?_toArray, List.getElem?_cons_zero, List.getElem?_cons_succ]) <;> rfl) (fun K hK => ?_) AllReadyT.nil)
                    rw [if_pos (by rfl)]
                    refine wp_append_ex (.tmp 42) (.tmp 50) 29 rfl v4 (.slice (some ⟨_, 0, none⟩) 1 1) rfl rfl _ (S3.own st.out ⟨rfl, rfl, rfl⟩ (by have := hi3.out; omega)) ?_
                    rintro v13 W13 st
                    replace st := hide st
                    refine hK.out _ _ (hS8.out _ st.out.bl) (fun hHeld => ?_)
                    (try clear hK K)
                    (try simp only [Act.put, List.setIfInBounds_toArray, List.set_cons_zero, List.set_cons_succ])
                    refine wpAnyT_ready (rs := [17]) (by kernel_rfl) (by simp) ?_
                    refine (AllReadyT.cons (by (simp only [List.getElem?_toArray, List.getElem?_cons_zero, List.getElem?_cons_succ]) <;> rfl) (fun K hK => ?_) AllReadyT.nil)
                    rw [if_pos (by rfl)]
                    refine wp_append_ex (.tmp 51) (.tmp 54) 29 rfl v13 (.slice (some ⟨g, k * 3, none⟩) (i - k) (c - k)) rfl rfl _ (S3.app st.out (some ⟨g, k * 3, none⟩) (i - k) (c - k) (xs.drop (k * 3)) hdl.out (by have q := (hRv.out _ st.out.bl).drop (k * 3); rwa [Nat.zero_add] at q) hdo.out (by have := hi3.out; omega) (by simp)) ?_
                    rintro v17 W17 st
                    obtain ⟨hAl, A9, c9, rfl⟩ := hst.out _ _ _ _ (by simpa using st)
                    replace st := hide st
                    replace hAl := hide hAl
                    refine hK.out _ _ (hS8.out _ st.out.bl) (fun hHeld => ?_)
                    (try clear hK K)
                    (try simp only [Act.put, List.setIfInBounds_toArray, List.set_cons_zero, List.set_cons_succ])
                    refine wpAnyT_ready (rs := [18]) (by kernel_rfl) (by simp) ?_
                    refine (AllReadyT.last (by (simp only [List.getElem?_toArray, List.getElem?_cons_zero, List.getElem?_cons_succ]) <;> rfl) (by kernel_rfl) (fun K hK => ?_) AllReadyT.nil)
                    go_simp
                    refine hK.out _ _ ?_
                    (try clear hK K)
                    (try simp only [Act.put, List.setIfInBounds_toArray, List.set_cons_zero, List.set_cons_succ])
                    refine wpAnyT_done (by kernel_rfl) ?_ _
                    (try clear hHeld)
                    (try go_wp2)
                    go_roundw
                    all_goals (try simp only [Array.getD_eq_getD_getElem?, List.getElem?_toArray, List.getElem?_cons_succ, List.getElem?_cons_zero, Option.getD_some])
                    case rel => exact ⟨i + 1, A9, c9, by omega, fun h => by omega, rfl, by go_num, hAl.out⟩
                    case measure => simp [intOf]; omega
                · rw [if_pos (by rfl)]
                  refine wp_buildF 49 nk A' m c' rk rfl rfl ?_
                  intro W12 hB12 hb12
                  have st := hide (S3.s12 st.out hB12 hb12)
                  refine hK.out _ _ (hS8.out _ st.out.bl) (fun hHeld => ?_)
                  (try clear hK K)
                  (try simp only [Act.put, List.setIfInBounds_toArray, List.set_cons_zero, List.set_cons_succ])
                  refine wpAnyT_ready (rs := [0]) (by kernel_rfl) (by simp) ?_
                  refine (AllReadyT.cons (by (simp only [List.getElem?_toArray, List.getElem?_cons_zero, List.getElem?_cons_succ]) <;> rfl) (fun K hK => ?_) AllReadyT.nil)
                  rw [if_pos (by rfl)]
                  refine wp_build0 29 35 3 rfl Try.underlying29 Try.sizeOf35 ?_
                  intro W0 hB0 hb0
                  have st := hide (S3.s0 st.out hB0 hb0)
                  refine hK.out _ _ (hS8.out _ st.out.bl) (fun hHeld => ?_)
                  (try clear hK K)
                  (try simp only [Act.put, List.setIfInBounds_toArray, List.set_cons_zero, List.set_cons_succ])
                  refine wpAnyT_ready (rs := [4]) (by kernel_rfl) (by simp) ?_
                  refine (AllReadyT.cons (by (simp only [List.getElem?_toArray, List.getElem?_cons_zero, List.getElem?_cons_succ]) <;> rfl) (fun K hK => ?_) AllReadyT.nil)
                  rw [if_pos (by rfl)]
                  refine wp_append_ex (.tmp 38) (.tmp 41) 29 rfl (.slice (some ⟨_, 0, none⟩) 0 0) (.slice (some ⟨g, 0, none⟩) k c) rfl rfl _ (S3.app st.out (some ⟨g, 0, none⟩) k c (xs.take (k * 3)) htl.out ((hRv.out _ st.out.bl).take _) hto.out (by have := hi3.out; omega) (by simp)) ?_
                  rintro v4 W4 st
                  replace st := hide st
                  refine hK.out _ _ (hS8.out _ st.out.bl) (fun hHeld => ?_)
                  (try clear hK K)
                  (try simp only [Act.put, List.setIfInBounds_toArray, List.set_cons_zero, List.set_cons_succ])
                  refine wpAnyT_ready (rs := [13]) (by kernel_rfl) (by simp) ?_
                  refine (AllReadyT.cons (by (simp only [List.getElem?_toArray, List.getElem?_cons_zero, List.getElem?_cons_succ]) <;> rfl) (fun K hK => ?_) AllReadyT.nil)
                  rw [if_pos (by rfl)]
                  refine wp_append_ex (.tmp 42) (.tmp 50) 29 rfl v4 (.slice (some ⟨_, 0, none⟩) 1 1) rfl rfl _ (S3.own st.out ⟨rfl, rfl, rfl⟩ (by have := hi3.out; omega)) ?_
                  rintro v13 W13 st
                  replace st := hide st
                  refine hK.out _ _ (hS8.out _ st.out.bl) (fun hHeld => ?_)
                  (try clear hK K)
                  (try simp only [Act.put, List.setIfInBounds_toArray, List.set_cons_zero, List.set_cons_succ])
                  refine wpAnyT_ready (rs := [17]) (by kernel_rfl) (by simp) ?_
                  refine (AllReadyT.cons (by (simp only [List.getElem?_toArray, List.getElem?_cons_zero, List.getElem?_cons_succ]) <;> rfl) (fun K hK => ?_) AllReadyT.nil)
                  rw [if_pos (by rfl)]
                  refine wp_append_ex (.tmp 51) (.tmp 54) 29 rfl v13 (.slice (some ⟨g, k * 3, none⟩) (i - k) (c - k)) rfl rfl _ (S3.app st.out (some ⟨g, k * 3, none⟩) (i - k) (c - k) (xs.drop (k * 3)) hdl.out (by have q := (hRv.out _ st.out.bl).drop (k * 3); rwa [Nat.zero_add] at q) hdo.out (by have := hi3.out; omega) (by simp)) ?_
                  rintro v17 W17 st
                  obtain ⟨hAl, A9, c9, rfl⟩ := hst.out _ _ _ _ (by simpa using st)
                  replace st := hide st
                  replace hAl := hide hAl
                  refine hK.out _ _ (hS8.out _ st.out.bl) (fun hHeld => ?_)
                  (try clear hK K)
                  (try simp only [Act.put, List.setIfInBounds_toArray, List.set_cons_zero, List.set_cons_succ])
                  refine wpAnyT_ready (rs := [18]) (by kernel_rfl) (by simp) ?_
                  refine (AllReadyT.last (by (simp only [List.getElem?_toArray, List.getElem?_cons_zero, List.getElem?_cons_succ]) <;> rfl) (by kernel_rfl) (fun K hK => ?_) AllReadyT.nil)
                  go_simp
                  refine hK.out _ _ ?_
                  (try clear hK K)
                  (try simp only [Act.put, List.setIfInBounds_toArray, List.set_cons_zero, List.set_cons_succ])
                  refine wpAnyT_done (by kernel_rfl) ?_ _
                  (try clear hHeld)
                  (try go_wp2)
                  go_roundw
                  all_goals (try simp only [Array.getD_eq_getD_getElem?, List.getElem?_toArray, List.getElem?_cons_succ, List.getElem?_cons_zero, Option.getD_some])
                  case rel => exact ⟨i + 1, A9, c9, by omega, fun h => by omega, rfl, by go_num, hAl.out⟩
                  case measure => simp [intOf]; omega
              · have e1 : k = i := by omega
                subst e1
                have e2 : c = k := by omega
                subst e2
                have hst := hide (hstep.out c (by omega) hgt.out hle2.out)
                have htl := hide (show (xs.take (c * 3)).length = c * 3 by first | rfl | (rw [List.length_take, hxl.out]; omega))
                have hdl := hide (show (xs.drop (c * 3)).length = 0 * 3 by first | rfl | (rw [List.length_drop, hxl.out]; omega))
                have hto := hide (show ∀ u ∈ xs.take (c * 3), u.oneCell' = true from fun u hu => hone.out u (List.mem_of_mem_take hu))
                have hdo := hide (show ∀ u ∈ xs.drop (c * 3), u.oneCell' = true from fun u hu => hone.out u (List.mem_of_mem_drop hu))
                go_wp2
                obtain ⟨W8, hW8⟩ : ∃ W, W = wr.drewN nq := ⟨_, rfl⟩
                rw [← hW8]
                have st := hide (S3.start (w2 := w1) (W := W8.drew) #[.string nk, .slice A' m c', .int .i64 rk] (by rw [hW8]; exact hbx.out.trans ((bel_dN wr nq).mono hbx.out.size)))
                replace hW8 := hide hW8
                refine wp_region_T (fun W => W.cell? ⟨r, 1, none⟩ = some (.slice (some ⟨b, o, none⟩) n cF) ∧ W.cell? ⟨b, o + c * 3, none⟩ = some (.string nk) ∧ W.cell? ⟨b, o + c * 3 + 1, none⟩ = some (.slice A' m c') ∧ W.cell? ⟨b, o + c * 3 + 2, none⟩ = some (.int .i64 rk)) 18 (by kernel_rfl) (hS8.out _ st.out.bl) (fun hHeld => ?_)
                refine wpAnyT_take 12 (i := 1) (v := ?vvt40) (by (simp only [List.getElem?_toArray, List.getElem?_cons_zero, List.getElem?_cons_succ]) <;> rfl) (by kernel_rfl) (by kernel_rfl) (by kernel_rfl) (by kernel_rfl) (by kernel_rfl) (by rfl) ?hqt40 (Or.inl ⟨by rfl, ?hyt40⟩) (by assumption) ?_
                case hqt40 => exact fun _ _ _ h => h
                case hyt40 => ((intro w hSw; (try dsimp only at hSw); go_simp) <;> (with_reducible rfl))
                (try simp only [Act.put, List.setIfInBounds_toArray, List.set_cons_zero, List.set_cons_succ])
                refine wpAnyT_take 12 (i := 2) (v := ?vvt41) (by (simp only [List.getElem?_toArray, List.getElem?_cons_zero, List.getElem?_cons_succ]) <;> rfl) (by kernel_rfl) (by kernel_rfl) (by kernel_rfl) (by kernel_rfl) (by kernel_rfl) (by rfl) ?hqt41 (Or.inl ⟨by rfl, ?hyt41⟩) (by assumption) ?_
                case hqt41 => exact fun _ _ _ h => h
                case hyt41 => ((intro w hSw; (try dsimp only at hSw); go_simp) <;> (with_reducible rfl))
                (try simp only [Act.put, List.setIfInBounds_toArray, List.set_cons_zero, List.set_cons_succ])
                refine wpAnyT_take 12 (i := 3) (v := ?vvt42) (by (simp only [List.getElem?_toArray, List.getElem?_cons_zero, List.getElem?_cons_succ]) <;> rfl) (by kernel_rfl) (by kernel_rfl) (by kernel_rfl) (by kernel_rfl) (by kernel_rfl) (by rfl) ?hqt42 (Or.inl ⟨by rfl, ?hyt42⟩) (by assumption) ?_
                case hqt42 => exact fun _ _ _ h => h
                case hyt42 => ((intro w hSw; (try dsimp only at hSw); go_simp) <;> (with_reducible rfl))
                (try simp only [Act.put, List.setIfInBounds_toArray, List.set_cons_zero, List.set_cons_succ])
                refine wpAnyT_take 12 (i := 5) (v := ?vvt43) (by (simp only [List.getElem?_toArray, List.getElem?_cons_zero, List.getElem?_cons_succ]) <;> rfl) (by kernel_rfl) (by kernel_rfl) (by kernel_rfl) (by kernel_rfl) (by kernel_rfl) (by rfl) ?hqt43 (Or.inl ⟨by rfl, ?hyt43⟩) (by assumption) ?_
                case hqt43 => exact fun _ _ _ h => h
                case hyt43 => ((intro w hSw; (try dsimp only at hSw); go_simp) <;> (with_reducible rfl))
                (try simp only [Act.put, List.setIfInBounds_toArray, List.set_cons_zero, List.set_cons_succ])
                refine wpAnyT_take 12 (i := 6) (v := ?vvt44) (by (simp only [List.getElem?_toArray, List.getElem?_cons_zero, List.getElem?_cons_succ]) <;> rfl) (by kernel_rfl) (by kernel_rfl) (by kernel_rfl) (by kernel_rfl) (by kernel_rfl) (by rfl) ?hqt44 (Or.inl ⟨by rfl, ?hyt44⟩) (by assumption) ?_
                case hqt44 => exact fun _ _ _ h => h
                case hyt44 => ((intro w hSw; (try dsimp only at hSw); go_simp) <;> (with_reducible rfl))
                (try simp only [Act.put, List.setIfInBounds_toArray, List.set_cons_zero, List.set_cons_succ])
                refine wpAnyT_take 12 (i := 7) (v := ?vvt45) (by (simp only [List.getElem?_toArray, List.getElem?_cons_zero, List.getElem?_cons_succ]) <;> rfl) (by kernel_rfl) (by kernel_rfl) (by kernel_rfl) (by kernel_rfl) (by kernel_rfl) (by rfl) ?hqt45 (Or.inl ⟨by rfl, ?hyt45⟩) (by assumption) ?_
                case hqt45 => exact fun _ _ _ h => h
                case hyt45 => ((intro w hSw; (try dsimp only at hSw); go_simp) <;> (with_reducible rfl))
                (try simp only [Act.put, List.setIfInBounds_toArray, List.set_cons_zero, List.set_cons_succ])
                refine wpAnyT_take 12 (i := 8) (v := ?vvt46) (by (simp only [List.getElem?_toArray, List.getElem?_cons_zero, List.getElem?_cons_succ]) <;> rfl) (by kernel_rfl) (by kernel_rfl) (by kernel_rfl) (by kernel_rfl) (by kernel_rfl) (by rfl) ?hqt46 (Or.inl ⟨by rfl, ?hyt46⟩) (by assumption) ?_
                case hqt46 => exact fun _ _ _ h => h
                case hyt46 => ((intro w hSw; (try dsimp only at hSw); go_simp) <;> (with_reducible rfl))
                (try simp only [Act.put, List.setIfInBounds_toArray, List.set_cons_zero, List.set_cons_succ])
                refine wpAnyT_take 12 (i := 9) (v := ?vvt47) (by (simp only [List.getElem?_toArray, List.getElem?_cons_zero, List.getElem?_cons_succ]) <;> rfl) (by kernel_rfl) (by kernel_rfl) (by kernel_rfl) (by kernel_rfl) (by kernel_rfl) (by rfl) ?hqt47 (Or.inl ⟨by rfl, ?hyt47⟩) (by assumption) ?_
                case hqt47 => exact fun _ _ _ h => h
                case hyt47 => ((intro w hSw; (try dsimp only at hSw); go_simp) <;> (with_reducible rfl))
                (try simp only [Act.put, List.setIfInBounds_toArray, List.set_cons_zero, List.set_cons_succ])
                refine wpAnyT_take 12 (i := 10) (v := ?vvt48) (by (simp only [List.getElem?_toArray, List.getElem?_cons_zero, List.getElem?_cons_succ]) <;> rfl) (by kernel_rfl) (by kernel_rfl) (by kernel_rfl) (by kernel_rfl) (by kernel_rfl) (by rfl) ?hqt48 (Or.inl ⟨by rfl, ?hyt48⟩) (by assumption) ?_
                case hqt48 => exact fun _ _ _ h => h
                case hyt48 => ((intro w hSw; (try dsimp only at hSw); go_simp) <;> (with_reducible rfl))
                (try simp only [Act.put, List.setIfInBounds_toArray, List.set_cons_zero, List.set_cons_succ])
                refine wpAnyT_take 12 (i := 11) (v := ?vvt49) (by (simp only [List.getElem?_toArray, List.getElem?_cons_zero, List.getElem?_cons_succ]) <;> rfl) (by kernel_rfl) (by kernel_rfl) (by kernel_rfl) (by kernel_rfl) (by kernel_rfl) (by rfl) ?hqt49 (Or.inl ⟨by rfl, ?hyt49⟩) (by assumption) ?_
                case hqt49 => exact fun _ _ _ h => h
                case hyt49 => ((intro w hSw; (try dsimp only at hSw); go_simp) <;> (with_reducible rfl))
                (try simp only [Act.put, List.setIfInBounds_toArray, List.set_cons_zero, List.set_cons_succ])
                refine wpAnyT_take 12 (i := 14) (v := ?vvt50) (by (simp only [List.getElem?_toArray, List.getElem?_cons_zero, List.getElem?_cons_succ]) <;> rfl) (by kernel_rfl) (by kernel_rfl) (by kernel_rfl) (by kernel_rfl) (by kernel_rfl) (by rfl) ?hqt50 (Or.inl ⟨by rfl, ?hyt50⟩) (by assumption) ?_
                case hqt50 => exact fun _ _ _ h => h
                case hyt50 => ((intro w hSw; (try dsimp only at hSw); go_simp) <;> (with_reducible rfl))
                (try simp only [Act.put, List.setIfInBounds_toArray, List.set_cons_zero, List.set_cons_succ])
                refine wpAnyT_take 12 (i := 15) (v := ?vvt51) (by (simp only [List.getElem?_toArray, List.getElem?_cons_zero, List.getElem?_cons_succ]) <;> rfl) (by kernel_rfl) (by kernel_rfl) (by kernel_rfl) (by kernel_rfl) (by kernel_rfl) (by rfl) ?hqt51 (Or.inl ⟨by rfl, ?hyt51⟩) (by assumption) ?_
                case hqt51 => exact fun _ _ _ h => h
                case hyt51 => ((intro w hSw; (try dsimp only at hSw); go_simp) <;> (with_reducible rfl))
                (try simp only [Act.put, List.setIfInBounds_toArray, List.set_cons_zero, List.set_cons_succ])
                refine wpAnyT_take 12 (i := 16) (v := ?vvt52) (by (simp only [List.getElem?_toArray, List.getElem?_cons_zero, List.getElem?_cons_succ]) <;> rfl) (by kernel_rfl) (by kernel_rfl) (by kernel_rfl) (by kernel_rfl) (by kernel_rfl) (by rfl) ?hqt52 (Or.inl ⟨by rfl, ?hyt52⟩) (by assumption) ?_
                case hqt52 => exact fun _ _ _ h => h
                case hyt52 => ((intro w hSw; (try dsimp only at hSw); go_simp) <;> (with_reducible rfl))
                (try simp only [Act.put, List.setIfInBounds_toArray, List.set_cons_zero, List.set_cons_succ])
                refine wpAnyT_ready (rs := [0, 12]) (by kernel_rfl) (by simp) ?_
                refine (AllReadyT.cons (by (simp only [List.getElem?_toArray, List.getElem?_cons_zero, List.getElem?_cons_succ]) <;> rfl) (fun K hK => ?_) (AllReadyT.cons (by (simp only [List.getElem?_toArray, List.getElem?_cons_zero, List.getElem?_cons_succ]) <;> rfl) (fun K hK => ?_) AllReadyT.nil))
                · rw [if_pos (by rfl)]
                  refine wp_build0 29 35 3 rfl Try.underlying29 Try.sizeOf35 ?_
                  intro W0 hB0 hb0
                  have st := hide (S3.s0 st.out hB0 hb0)
                  refine hK.out _ _ (hS8.out _ st.out.bl) (fun hHeld => ?_)
                  (try clear hK K)
                  (try simp only [Act.put, List.setIfInBounds_toArray, List.set_cons_zero, List.set_cons_succ])
                  refine wpAnyT_ready (rs := [4, 12]) (by kernel_rfl) (by simp) ?_
                  refine (AllReadyT.cons (by (simp only [List.getElem?_toArray, List.getElem?_cons_zero, List.getElem?_cons_succ]) <;> rfl) (fun K hK => ?_) (AllReadyT.cons (by (simp only [List.getElem?_toArray, List.getElem?_cons_zero, List.getElem?_cons_succ]) <;> rfl) (fun K hK => ?_) AllReadyT.nil))
                  · rw [if_pos (by rfl)]
                    refine wp_append_ex (.tmp 38) (.tmp 41) 29 rfl (.slice (some ⟨_, 0, none⟩) 0 0) (.slice (some ⟨g, 0, none⟩) c c) rfl rfl _ (S3.app st.out (some ⟨g, 0, none⟩) c c (xs.take (c * 3)) htl.out ((hRv.out _ st.out.bl).take _) hto.out (by have := hi3.out; omega) (by simp)) ?_
                    rintro v4 W4 st
                    replace st := hide st
                    refine hK.out _ _ (hS8.out _ st.out.bl) (fun hHeld => ?_)
                    (try clear hK K)
                    (try simp only [Act.put, List.setIfInBounds_toArray, List.set_cons_zero, List.set_cons_succ])
                    refine wpAnyT_ready (rs := [12]) (by kernel_rfl) (by simp) ?_
                    refine (AllReadyT.cons (by (simp only [List.getElem?_toArray, List.getElem?_cons_zero, List.getElem?_cons_succ]) <;> rfl) (fun K hK => ?_) AllReadyT.nil)
                    rw [if_pos (by rfl)]
                    refine wp_buildF 49 nk A' m c' rk rfl rfl ?_
                    intro W12 hB12 hb12
                    have st := hide (S3.s12 st.out hB12 hb12)
                    refine hK.out _ _ (hS8.out _ st.out.bl) (fun hHeld => ?_)
                    (try clear hK K)
                    (try simp only [Act.put, List.setIfInBounds_toArray, List.set_cons_zero, List.set_cons_succ])
                    refine wpAnyT_ready (rs := [13]) (by kernel_rfl) (by simp) ?_
                    refine (AllReadyT.cons (by (simp only [List.getElem?_toArray, List.getElem?_cons_zero, List.getElem?_cons_succ]) <;> rfl) (fun K hK => ?_) AllReadyT.nil)
                    rw [if_pos (by rfl)]
                    refine wp_append_ex (.tmp 42) (.tmp 50) 29 rfl v4 (.slice (some ⟨_, 0, none⟩) 1 1) rfl rfl _ (S3.own st.out ⟨rfl, rfl, rfl⟩ (by have := hi3.out; omega)) ?_
                    rintro v13 W13 st
                    replace st := hide st
                    refine hK.out _ _ (hS8.out _ st.out.bl) (fun hHeld => ?_)
                    (try clear hK K)
                    (try simp only [Act.put, List.setIfInBounds_toArray, List.set_cons_zero, List.set_cons_succ])
                    refine wpAnyT_ready (rs := [17]) (by kernel_rfl) (by simp) ?_
                    refine (AllReadyT.cons (by (simp only [List.getElem?_toArray, List.getElem?_cons_zero, List.getElem?_cons_succ]) <;> rfl) (fun K hK => ?_) AllReadyT.nil)
                    rw [if_pos (by rfl)]
                    refine wp_append_ex (.tmp 51) (.tmp 54) 29 rfl v13 (.slice (some ⟨g, 0, none⟩) 0 0) rfl rfl _ (S3.app st.out (some ⟨g, 0, none⟩) 0 0 (xs.drop (c * 3)) hdl.out (.inl (by rw [List.drop_eq_nil_iff]; have := hxl.out; omega)) hdo.out (by have := hi3.out; omega) (by simp)) ?_
                    rintro v17 W17 st
                    obtain ⟨hAl, A9, c9, rfl⟩ := hst.out _ _ _ _ (by simpa using st)
                    replace st := hide st
                    replace hAl := hide hAl
                    refine hK.out _ _ (hS8.out _ st.out.bl) (fun hHeld => ?_)
                    (try clear hK K)
                    (try simp only [Act.put, List.setIfInBounds_toArray, List.set_cons_zero, List.set_cons_succ])
                    refine wpAnyT_ready (rs := [18]) (by kernel_rfl) (by simp) ?_
                    refine (AllReadyT.last (by (simp only [List.getElem?_toArray, List.getElem?_cons_zero, List.getElem?_cons_succ]) <;> rfl) (by kernel_rfl) (fun K hK => ?_) AllReadyT.nil)
                    go_simp
                    refine hK.out _ _ ?_
                    (try clear hK K)
                    (try simp only [Act.put, List.setIfInBounds_toArray, List.set_cons_zero, List.set_cons_succ])
                    refine wpAnyT_done (by kernel_rfl) ?_ _
                    (try clear hHeld)
                    (try go_wp2)
                    go_roundw
                    all_goals (try simp only [Array.getD_eq_getD_getElem?, List.getElem?_toArray, List.getElem?_cons_succ, List.getElem?_cons_zero, Option.getD_some])
                    case rel => exact ⟨c + 1, A9, c9, by omega, fun h => by omega, rfl, by go_num, hAl.out⟩
                    case measure => simp [intOf]; omega
                  · rw [if_pos (by rfl)]
                    refine wp_buildF 49 nk A' m c' rk rfl rfl ?_
                    intro W12 hB12 hb12
                    have st := hide (S3.s12 st.out hB12 hb12)
                    refine hK.out _ _ (hS8.out _ st.out.bl) (fun hHeld => ?_)
                    (try clear hK K)
                    (try simp only [Act.put, List.setIfInBounds_toArray, List.set_cons_zero, List.set_cons_succ])
                    refine wpAnyT_ready (rs := [4]) (by kernel_rfl) (by simp) ?_
                    refine (AllReadyT.cons (by (simp only [List.getElem?_toArray, List.getElem?_cons_zero, List.getElem?_cons_succ]) <;> rfl) (fun K hK => ?_) AllReadyT.nil)
                    rw [if_pos (by rfl)]
                    refine wp_append_ex (.tmp 38) (.tmp 41) 29 rfl (.slice (some ⟨_, 0, none⟩) 0 0) (.slice (some ⟨g, 0, none⟩) c c) rfl rfl _ (S3.app st.out (some ⟨g, 0, none⟩) c c (xs.take (c * 3)) htl.out ((hRv.out _ st.out.bl).take _) hto.out (by have := hi3.out; omega) (by simp)) ?_
                    rintro v4 W4 st
                    replace st := hide st
                    refine hK.out _ _ (hS8.out _ st.out.bl) (fun hHeld => ?_)
                    (try clear hK K)
                    (try simp only [Act.put, List.setIfInBounds_toArray, List.set_cons_zero, List.set_cons_succ])
                    refine wpAnyT_ready (rs := [13]) (by kernel_rfl) (by simp) ?_
                    refine (AllReadyT.cons (by (simp only [List.getElem?_toArray, List.getElem?_cons_zero, List.getElem?_cons_succ]) <;> rfl) (fun K hK => ?_) AllReadyT.nil)
                    rw [if_pos (by rfl)]
                    refine wp_append_ex (.tmp 42) (.tmp 50) 29 rfl v4 (.slice (some ⟨_, 0, none⟩) 1 1) rfl rfl _ (S3.own st.out ⟨rfl, rfl, rfl⟩ (by have := hi3.out; omega)) ?_
                    rintro v13 W13 st
                    replace st := hide st
                    refine hK.out _ _ (hS8.out _ st.out.bl) (fun hHeld => ?_)
                    (try clear hK K)
                    (try simp only [Act.put, List.setIfInBounds_toArray, List.set_cons_zero, List.set_cons_succ])
                    refine wpAnyT_ready (rs := [17]) (by kernel_rfl) (by simp) ?_
                    refine (AllReadyT.cons (by (simp only [List.getElem?_toArray, List.getElem?_cons_zero, List.getElem?_cons_succ]) <;> rfl) (fun K hK => ?_) AllReadyT.nil)
                    rw [if_pos (by rfl)]
                    refine wp_append_ex (.tmp 51) (.tmp 54) 29 rfl v13 (.slice (some ⟨g, 0, none⟩) 0 0) rfl rfl _ (S3.app st.out (some ⟨g, 0, none⟩) 0 0 (xs.drop (c * 3)) hdl.out (.inl (by rw [List.drop_eq_nil_iff]; have := hxl.out; omega)) hdo.out (by have := hi3.out; omega) (by simp)) ?_
                    rintro v17 W17 st
                    obtain ⟨hAl, A9, c9, rfl⟩ := hst.out _ _ _ _ (by simpa using st)
                    replace st := hide st
                    replace hAl := hide hAl
                    refine hK.out _ _ (hS8.out _ st.out.bl) (fun hHeld => ?_)
                    (try clear hK K)
                    (try simp only [Act.put, List.setIfInBounds_toArray, List.set_cons_zero, List.set_cons_succ])
                    refine wpAnyT_ready (rs := [18]) (by kernel_rfl) (by simp) ?_
                    refine (AllReadyT.last (by (simp only [List.getElem?_toArray, List.getElem?_cons_zero, List.getElem?_cons_succ]) <;> rfl) (by kernel_rfl) (fun K hK => ?_) AllReadyT.nil)
                    go_simp
                    refine hK.out _ _ ?_
                    (try clear hK K)
                    (try simp only [Act.put, List.setIfInBounds_toArray, List.set_cons_zero, List.set_cons_succ])
                    refine wpAnyT_done (by kernel_rfl) ?_ _
                    (try clear hHeld)
                    (try go_wp2)
                    go_roundw
                    all_goals (try simp only [Array.getD_eq_getD_getElem?, List.getElem?_toArray, List.getElem?_cons_succ, List.getElem?_cons_zero, Option.getD_some])
                    case rel => exact ⟨c + 1, A9, c9, by omega, fun h => by omega, rfl, by go_num, hAl.out⟩
                    case measure => simp [intOf]; omega
                · rw [if_pos (by rfl)]
                  refine wp_buildF 49 nk A' m c' rk rfl rfl ?_
                  intro W12 hB12 hb12
                  have st := hide (S3.s12 st.out hB12 hb12)
                  refine hK.out _ _ (hS8.out _ st.out.bl) (fun hHeld => ?_)
                  (try clear hK K)
                  (try simp only [Act.put, List.setIfInBounds_toArray, List.set_cons_zero, List.set_cons_succ])
                  refine wpAnyT_ready (rs := [0]) (by kernel_rfl) (by simp) ?_
                  refine (AllReadyT.cons (by (simp only [List.getElem?_toArray, List.getElem?_cons_zero, List.getElem?_cons_succ]) <;> rfl) (fun K hK => ?_) AllReadyT.nil)
                  rw [if_pos (by rfl)]
                  refine wp_build0 29 35 3 rfl Try.underlying29 Try.sizeOf35 ?_
                  intro W0 hB0 hb0
                  have st := hide (S3.s0 st.out hB0 hb0)
                  refine hK.out _ _ (hS8.out _ st.out.bl) (fun hHeld => ?_)
                  (try clear hK K)
                  (try simp only [Act.put, List.setIfInBounds_toArray, List.set_cons_zero, List.set_cons_succ])
                  refine wpAnyT_ready (rs := [4]) (by kernel_rfl) (by simp) ?_
                  refine (AllReadyT.cons (by (simp only [List.getElem?_toArray, List.getElem?_cons_zero, List.getElem?_cons_succ]) <;> rfl) (fun K hK => ?_) AllReadyT.nil)
                  rw [if_pos (by rfl)]
                  refine wp_append_ex (.tmp 38) (.tmp 41) 29 rfl (.slice (some ⟨_, 0, none⟩) 0 0) (.slice (some ⟨g, 0, none⟩) c c) rfl rfl _ (S3.app st.out (some ⟨g, 0, none⟩) c c (xs.take (c * 3)) htl.out ((hRv.out _ st.out.bl).take _) hto.out (by have := hi3.out; omega) (by simp)) ?_
                  rintro v4 W4 st
                  replace st := hide st
                  refine hK.out _ _ (hS8.out _ st.out.bl) (fun hHeld => ?_)
                  (try clear hK K)
                  (try simp only [Act.put, List.setIfInBounds_toArray, List.set_cons_zero, List.set_cons_succ])
                  refine wpAnyT_ready (rs := [13]) (by kernel_rfl) (by simp) ?_
                  refine (AllReadyT.cons (by (simp only [List.getElem?_toArray, List.getElem?_cons_zero, List.getElem?_cons_succ]) <;> rfl) (fun K hK => ?_) AllReadyT.nil)
                  rw [if_pos (by rfl)]
                  refine wp_append_ex (.tmp 42) (.tmp 50) 29 rfl v4 (.slice (some ⟨_, 0, none⟩) 1 1) rfl rfl _ (S3.own st.out ⟨rfl, rfl, rfl⟩ (by have := hi3.out; omega)) ?_
                  rintro v13 W13 st
                  replace st := hide st
                  refine hK.out _ _ (hS8.out _ st.out.bl) (fun hHeld => ?_)
                  (try clear hK K)
                  (try simp only [Act.put, List.setIfInBounds_toArray, List.set_cons_zero, List.set_cons_succ])
                  refine wpAnyT_ready (rs := [17]) (by kernel_rfl) (by simp) ?_
                  refine (AllReadyT.cons (by (simp only [List.getElem?_toArray, List.getElem?_cons_zero, List.getElem?_cons_succ]) <;> rfl) (fun K hK => ?_) AllReadyT.nil)
                  rw [if_pos (by rfl)]
                  refine wp_append_ex (.tmp 51) (.tmp 54) 29 rfl v13 (.slice (some ⟨g, 0, none⟩) 0 0) rfl rfl _ (S3.app st.out (some ⟨g, 0, none⟩) 0 0 (xs.drop (c * 3)) hdl.out (.inl (by rw [List.drop_eq_nil_iff]; have := hxl.out; omega)) hdo.out (by have := hi3.out; omega) (by simp)) ?_
                  rintro v17 W17 st
                  obtain ⟨hAl, A9, c9, rfl⟩ := hst.out _ _ _ _ (by simpa using st)
                  replace st := hide st
                  replace hAl := hide hAl
                  refine hK.out _ _ (hS8.out _ st.out.bl) (fun hHeld => ?_)
                  (try clear hK K)
                  (try simp only [Act.put, List.setIfInBounds_toArray, List.set_cons_zero, List.set_cons_succ])
                  refine wpAnyT_ready (rs := [18]) (by kernel_rfl) (by simp) ?_
                  refine (AllReadyT.last (by (simp only [List.getElem?_toArray, List.getElem?_cons_zero, List.getElem?_cons_succ]) <;> rfl) (by kernel_rfl) (fun K hK => ?_) AllReadyT.nil)
                  go_simp
                  refine hK.out _ _ ?_
                  (try clear hK K)
                  (try simp only [Act.put, List.setIfInBounds_toArray, List.set_cons_zero, List.set_cons_succ])
                  refine wpAnyT_done (by kernel_rfl) ?_ _
                  (try clear hHeld)
                  (try go_wp2)
                  go_roundw
                  all_goals (try simp only [Array.getD_eq_getD_getElem?, List.getElem?_toArray, List.getElem?_cons_succ, List.getElem?_cons_zero, Option.getD_some])
                  case rel => exact ⟨c + 1, A9, c9, by omega, fun h => by omega, rfl, by go_num, hAl.out⟩
                  case measure => simp [intOf]; omega
    · have hid : decide (i < n) = false := decide_eq_false hin
      obtain rfl : i = n := by omega
      go_wp2
      go_ret
      exact ⟨_, _, rfl, hA0.out⟩
end
end Nt
end Go.Proofs.Ytlcgdiciiibeeaa
