/-
  The reference's declarations: a function found; levels.
-/
import Derived.Test.YtlcgdiciiibeeaaRd
namespace Go.Proofs.Ytlcgdiciiibeeaa
open Go.ChangeShapes Go.RowKit
namespace Nt
set_option maxRecDepth 100000
set_option linter.unusedSimpArgs false
set_option linter.unusedVariables false
section
variable {Z R : List Nat} {w w' w3 : World} {r : Nat} {nm : List ByteArray} {fs : List Fn} {L : List (Nat × Nat)} {AN : Option Addr} {cN : Nat} {AF : Option Addr} {cF : Nat} {vL : Value}
set_option maxHeartbeats 2000000 in
theorem ref_find_yes (h : RfP Z w r R nm fs L AN cN AF cF vL) (hn : fs.length ≤ 1000) (s : ByteArray) (i : Nat) (hi : i < fs.length) (he : fs[i].nm.data.toList = s.data.toList) (hno : ∀ j (h1 : j < i) (h2 : j < fs.length), fs[j].nm.data.toList ≠ s.data.toList) :
    Calls Try.prog 19 #[.pointer (some ⟨r, 0, none⟩), .string s] w fun e w' => ∃ A c, e = .returned (.tuple #[.agg #[.string fs[i].nm, .slice A fs[i].ar.length c, .int .i64 fs[i].rs], .bool true]) ∧ Ir (R ++ Z) w' A fs[i].ar ∧ Below w.heap.size w w' := by
  obtain ⟨W0, hW0⟩ : ∃ W, W = w.alloc (.cells #[.string ⟨#[]⟩, .slice none 0 0, .int .i64 0] 35) := ⟨_, rfl⟩
  have hX : Bk w.heap.size #[.string ⟨#[]⟩, .slice none 0 0, .int .i64 0] 35 W0 := by rw [hW0]; exact Bk.new _ _ _
  have hb0 : Below w.heap.size w W0 := by rw [hW0]; exact bel_al _ _
  have h0 := h.next hb0
  have a1 : W0.cell? ⟨r, 1, none⟩ = some (.slice AF fs.length cF) := h0.bk.cell rfl
  obtain ⟨vs, f1, f2⟩ := id h0.rF
  have hrd : ∀ k (hk : k < fs.length), ∃ b o, AF = some ⟨b, o, none⟩ ∧ W0.cell? ⟨b, o + k * 3, none⟩ = some (.string fs[k].nm) := by
    intro k hk
    obtain ⟨A, c, q0, _⟩ := Fs.get f2 k hk
    exact f1.get q0
  obtain ⟨A, c, q0, q1, q2, q3, q4⟩ := Fs.get f2 i hi
  obtain ⟨b, o, hA, c0⟩ := f1.get q0
  obtain ⟨b1, o1, hA1, c1⟩ := f1.get q1
  obtain ⟨b2, o2, hA2, c2⟩ := f1.get q2
  rw [hA] at hA1 hA2
  cases hA1; cases hA2
  subst hA
  rw [← Nat.add_assoc] at c1 c2
  have hend : ∀ F, F = (((W0.setCell ⟨w.heap.size, 0, none⟩ (.string fs[i].nm)).setCell ⟨w.heap.size, 1, none⟩ (.slice A fs[i].ar.length c)).setCell ⟨w.heap.size, 2, none⟩ (.int .i64 fs[i].rs)) →
      F.cell? ⟨w.heap.size, 0, none⟩ = some (.string fs[i].nm) ∧ F.cell? ⟨w.heap.size, 1, none⟩ = some (.slice A fs[i].ar.length c) ∧ F.cell? ⟨w.heap.size, 2, none⟩ = some (.int .i64 fs[i].rs) ∧ Ir (R ++ Z) F A fs[i].ar ∧ Below w.heap.size w F := by
    intro F hFd
    have hY : Bk w.heap.size #[.string fs[i].nm, .slice A fs[i].ar.length c, .int .i64 fs[i].rs] 35 F := by
      rw [hFd]; exact ((hX.set _ rfl).set _ rfl).set _ rfl
    have hO : Off [w.heap.size] W0 F := by
      rw [hFd]; exact (((Off.refl _ _).setCell _ _ (.inl (by simp))).setCell _ _ (.inl (by simp))).setCell _ _ (.inl (by simp))
    have hB : Below w.heap.size w F := hb0.trans (hO.below hb0.size (by intro b hb; simp at hb; omega))
    obtain ⟨vs', g1, g2⟩ := id h.rF
    obtain ⟨A', c', p0, p1, p2, p3, p4⟩ := Fs.get g2 i hi
    -- the row of its types lies in w already
    have hl : vs' = vs ∨ True := .inr trivial
    refine ⟨hY.cell rfl, hY.cell rfl, hY.cell rfl, ?_, hB⟩
    obtain ⟨b', o', e', d1⟩ := g1.get p1
    cases e'
    have d1' := (Off.of_below hb0 []).cell d1 (cell_in d1) (by simp)
    rw [← Nat.add_assoc] at d1'
    rw [c1] at d1'
    injection d1' with d1'
    injection d1' with d2 d3 d4
    subst d2
    exact p3.off (Off.of_below hB []) (by simp) (fun b hb => .inl hb)
  have f0 := hX.free 0
  have f1' := hX.free 1
  have f2' := hX.free 2
  have x0 : W0.cell? ⟨w.heap.size, 0, none⟩ = some (.string ⟨#[]⟩) := hX.cell rfl
  have x1 : W0.cell? ⟨w.heap.size, 1, none⟩ = some (.slice none 0 0) := hX.cell rfl
  have x2 : W0.cell? ⟨w.heap.size, 2, none⟩ = some (.int .i64 0) := hX.cell rfl
  have e3 : ∀ b : ByteArray, binOp .eql 9 (.string b) (.string s) = pure (.bool (b.data.toList == s.data.toList)) := fun b => eql_s _ b s
  have hne : ∀ k, k < i → ∃ nk, W0.cell? ⟨b, o + k * 3, none⟩ = some (.string nk) ∧ binOp .eql 9 (.string nk) (.string s) = pure (.bool false) := by
    intro k hk
    obtain ⟨b', o', e', d⟩ := hrd k (by omega)
    cases e'
    refine ⟨_, d, ?_⟩
    rw [e3, beq_eq_false_iff_ne.2 (hno k hk (by omega))]
  have hyes := e3 fs[i].nm
  rw [he, beq_self_eq_true] at hyes
  have hW := hide hW0
  replace hend := hide hend; replace hne := hide hne
  obtain ⟨n, hn'⟩ : ∃ n, n = fs.length := ⟨_, rfl⟩
  rw [← hn'] at a1 hn
  have hin : i < n := by omega
  clear hrd f1 f2 q0 q1 q2 q3 q4 e3 hno he h h0 hX hb0 hW0 hn'
  generalize fs[i].nm = nmk at *
  generalize fs[i].ar = ark at *
  generalize fs[i].rs = rsk at *
  go_enter Try.func19, Try.ntmps19
  go_wp2
  rw [← hW.out]
  go_loop [6] (fun v => ∃ k : Nat, k ≤ i ∧ v = .int .i64 (k : Int)) (fun v => i - (intOf v).toNat)
  case atStart => exact ⟨0, Nat.zero_le _, rfl⟩
  case round =>
    obtain ⟨k, hk, rfl⟩ := hrel
    have hkn : k < n := by omega
    by_cases hki : k = i
    · subst hki
      go_wp2
      obtain ⟨g0, g1, g2, gI, gB⟩ := hend.out _ rfl
      obtain ⟨F, hF⟩ : ∃ F, F = (((W0.setCell ⟨w.heap.size, 0, none⟩ (.string nmk)).setCell ⟨w.heap.size, 1, none⟩ (.slice A ark.length c)).setCell ⟨w.heap.size, 2, none⟩ (.int .i64 rsk)) := ⟨_, rfl⟩
      rw [← hF] at g0 g1 g2 gI gB ⊢
      exact bodyPost_ret (v := .tuple #[.agg #[.string nmk, .slice A ark.length c, .int .i64 rsk], .bool true]) (by simp [results, Try.results19, go_sem, g0, g1, g2]) rfl ⟨A, ⟨c, rfl⟩, gI, gB⟩
    · obtain ⟨nk, d0, d1⟩ := hne.out k (by omega)
      go_wp2
      go_round
      case rel => exact ⟨k + 1, by omega, by go_num⟩
      case measure => simp [intOf]; omega

theorem wp_buildL {Q : Exit → Act → World → Prop} {o : Oper} {a : Act} {w : World} {K : Act → World → Prop} (i : Nat) (x y : Int) (ho : o.op = .buildSlice 30 1 #[(0, .tmp i)]) (hx : a.tmps[i]?.getD undef = .agg #[.int .i64 x, .int .i64 y])
    (hK : ∀ w', Bk w.heap.size #[.int .i64 x, .int .i64 y] 78 w' → Below w.heap.size w w' → K (a.put o.dst (.slice (some ⟨w.heap.size, 0, none⟩) 1 1)) w') : Oper.wp Try.prog o a w K Q := by
  have h1 := hK (w.alloc (.cells #[.int .i64 x, .int .i64 y] 78)) (Bk.new _ _ _) (bel_al _ _)
  clear hK
  unfold Oper.wp
  simp only [execOp, ho]
  go_simp
  exact h1

/-- A level laid behind the others. -/
theorem rf_push (h : RfP Z w r R nm fs L AN cN AF cF vL) (hZ : ∀ b ∈ Z, b < w.heap.size) (hL : L.length ≤ 10000) {W W1 : World} (hb : Below w.heap.size w W) (hB : Bk W.heap.size #[.int .i64 (nm.length : Int), .int .i64 (fs.length : Int)] 78 W1) (hb1 : Below W.heap.size W W1) :
    ∃ v W', (∃ A2 c2, v = .slice A2 (L.length + 1) c2) ∧ (∀ t', (Builtin.append_ #[30, 30] t' #[vL, .slice (some ⟨W.heap.size, 0, none⟩) 1 1]).run Try.prog W1 = .ok v W') ∧ ((W'.cell? ⟨r, 0, none⟩ = some (.slice AN nm.length cN) ∧ W'.cell? ⟨r, 1, none⟩ = some (.slice AF fs.length cF) ∧ W'.cell? ⟨r, 2, none⟩ = some vL) ∧ W'.frozen? ⟨r, 2, none⟩ = false) ∧
      ∃ R', RfP Z (W'.setCell ⟨r, 2, none⟩ v) r R' nm fs (L ++ [(nm.length, fs.length)]) AN cN AF cF v ∧ Off R w (W'.setCell ⟨r, 2, none⟩ v) ∧ ∀ b ∈ R', b ∈ R ∨ w.heap.size ≤ b := by
  have hs := hb.size
  have hs1 := hb1.size
  have hw1 : Below w.heap.size w W1 := hb.trans (hb1.mono hs)
  have h1 := h.next hw1
  have hRx : Rv [] W1 (some ⟨W.heap.size, 0, none⟩) [.int .i64 (nm.length : Int), .int .i64 (fs.length : Int)] := .inr ⟨_, 0, rfl, hB.lt, by simp, fun j u hj => by rw [Nat.zero_add]; exact hB.cell (by rw [← Array.getElem?_toList]; exact hj)⟩
  obtain ⟨v, W', hr, k1, k2, k3⟩ := app_row infL Try.underlying30 rfl (by decide) W1 vL L.length (lcs L) h1.rL (some ⟨W.heap.size, 0, none⟩) 1 1 [.int .i64 (nm.length : Int), .int .i64 (fs.length : Int)] [] rfl hRx (by intro u hu; simp at hu; rcases hu with rfl | rfl <;> rfl) (by omega) (by decide) (by simp)
  have hrR : r ∈ R := by rw [h.eR]; simp
  have hrv : ∀ k, vL.ownBlock = some k → k ≠ r := fun k hk e => by
    have := h.once
    rw [h.eR, List.nodup_cons] at this
    subst e
    exact this.1 (by rw [Option.mem_toList]; exact hk)
  have hrv' : ∀ k, v.ownBlock = some k → k ≠ r := fun k hk e => by
    rcases k3 k hk with h' | h'
    · exact hrv k h' e
    · subst e; have := h1.bk.lt; omega
  have hbk : Bk r #[.slice AN nm.length cN, .slice AF fs.length cF, vL] 32 W' := h1.bk.off k2 (fun hm => hrv r (by rwa [Option.mem_toList] at hm) rfl)
  have hO : Off R w (W'.setCell ⟨r, 2, none⟩ v) := by
    refine (Off.of_below hw1 R).trans ((k2.more (T' := R) (fun b hb => by rw [h.eR]; exact List.mem_cons_of_mem _ hb)).setCell _ _ (.inl hrR)) (fun b hb => .inl hb)
  have hR' : ∀ b ∈ r :: v.ownBlock.toList, b ∈ R ∨ w.heap.size ≤ b := by
    intro b hb
    rcases List.mem_cons.1 hb with rfl | hb
    · exact .inl hrR
    · rcases k3 b (by rwa [Option.mem_toList] at hb) with h' | h'
      · exact .inl (by rw [h.eR]; exact List.mem_cons_of_mem _ (by rw [Option.mem_toList]; exact h'))
      · exact .inr (by omega)
  have hsub : ∀ b ∈ R, b ∈ R ++ Z ∨ w.heap.size ≤ b := fun b hb => .inl (List.mem_append_left _ hb)
  have hsub2 : ∀ b ∈ (r :: v.ownBlock.toList) ++ Z, b ∈ R ++ Z ∨ w.heap.size ≤ b := fun b hb => (List.mem_append.1 hb).elim (fun h' => (hR' b h').imp (List.mem_append_left _) id) (fun h' => .inl (List.mem_append_right _ h'))
  obtain ⟨vs, g1, g2⟩ := id h.rF
  have hform : ∃ A2 c2, v = .slice A2 (L.length + 1) c2 := by
    rcases k1.2 with ⟨e, h⟩ | ⟨g, cap, cu, e, _⟩
    · omega
    · exact ⟨_, _, e⟩
  refine ⟨v, W', hform, hr, ⟨⟨hbk.cell rfl, hbk.cell rfl, hbk.cell rfl⟩, hbk.free 2⟩, r :: v.ownBlock.toList, ⟨hbk.set _ rfl, h.nN, h.nF, h.rN.off hO hsub hsub2, ⟨vs, g1.off hO hsub hsub2, g2.off hO hsub hsub2⟩, ?_, rfl, ?_, fun b hb hm => ?_⟩, hO, hR'⟩
  · have q : W'.ownsRow 0 78 2 v (L ++ [(nm.length, fs.length)]).length (lcs (L ++ [(nm.length, fs.length)])) := by
      rw [List.length_append]
      have : lcs (L ++ [(nm.length, fs.length)]) = lcs L ++ [.int .i64 (nm.length : Int), .int .i64 (fs.length : Int)] := by simp [lcs]
      rw [this]
      exact k1
    exact Off.row q ((Off.refl _ _).setCell (T := [r]) _ _ (.inl (by simp))) (fun k hk hm => hrv' k hk (by simpa using hm))
  · rw [List.nodup_cons]
    refine ⟨fun hm => hrv' r (by rwa [Option.mem_toList] at hm) rfl, ?_⟩
    cases v.ownBlock <;> simp
  · rcases hR' b hm with h' | h'
    · exact h.ap b hb h'
    · exact Nat.not_lt.2 h' (hZ b hb)

set_option maxHeartbeats 4000000 in
theorem ref_push (h : RfP Z w r R nm fs L AN cN AF cF vL) (hZ : ∀ b ∈ Z, b < w.heap.size) (hL : L.length ≤ 10000) :
    Calls Try.prog 15 #[.pointer (some ⟨r, 0, none⟩)] w fun e w' => e = .returned (.tuple #[]) ∧ (∃ R' vL', RfP Z w' r R' nm fs (L ++ [(nm.length, fs.length)]) AN cN AF cF vL' ∧ ∀ b ∈ R', b ∈ R ∨ w.heap.size ≤ b) ∧ Off R w w' := by
  have hk : ∀ W, Below w.heap.size w W → W.cell? ⟨r, 0, none⟩ = some (.slice AN nm.length cN) ∧ W.cell? ⟨r, 1, none⟩ = some (.slice AF fs.length cF) ∧ W.cell? ⟨r, 2, none⟩ = some vL := fun W hb => ⟨(h.next hb).bk.cell rfl, (h.next hb).bk.cell rfl, (h.next hb).bk.cell rfl⟩
  have hp : ∀ W W1, Below w.heap.size w W → Bk W.heap.size #[.int .i64 (nm.length : Int), .int .i64 (fs.length : Int)] 78 W1 → Below W.heap.size W W1 → _ := fun W W1 hb hB hb1 => rf_push h hZ hL hb hB hb1
  clear h hZ
  generalize nm.length = n at *
  generalize fs.length = m at *
  replace hk := hide hk
  replace hp := hide hp
  go_enter Try.func15, Try.ntmps15
  (try go_wp2)
  refine wp_region_T (fun W => W.cell? ⟨r, 0, none⟩ = some (.slice AN n cN) ∧ W.cell? ⟨r, 1, none⟩ = some (.slice AF m cF) ∧ W.cell? ⟨r, 2, none⟩ = some vL) 20 (by kernel_rfl) (hk.out _ (bel_drew w)) (fun hHeld => ?_)
  refine wpAnyT_take 12 (i := 0) (v := ?vvt1) (by (simp only [List.getElem?_toArray, List.getElem?_cons_zero, List.getElem?_cons_succ]) <;> rfl) (by kernel_rfl) (by kernel_rfl) (by kernel_rfl) (by kernel_rfl) (by kernel_rfl) (by rfl) ?hqt1 (Or.inl ⟨by rfl, ?hyt1⟩) (by assumption) ?_
  case hqt1 => exact fun _ _ _ h => h
  case hyt1 => ((intro w hSw; (try dsimp only at hSw); go_simp) <;> (with_reducible rfl))
  (try simp only [Act.put, List.setIfInBounds_toArray, List.set_cons_zero, List.set_cons_succ])
  refine wpAnyT_take 12 (i := 1) (v := ?vvt2) (by (simp only [List.getElem?_toArray, List.getElem?_cons_zero, List.getElem?_cons_succ]) <;> rfl) (by kernel_rfl) (by kernel_rfl) (by kernel_rfl) (by kernel_rfl) (by kernel_rfl) (by rfl) ?hqt2 (Or.inl ⟨by rfl, ?hyt2⟩) (by assumption) ?_
  case hqt2 => exact fun _ _ _ h => h
  case hyt2 => ((intro w hSw; (try dsimp only at hSw); go_simp) <;> (with_reducible rfl))
  (try simp only [Act.put, List.setIfInBounds_toArray, List.set_cons_zero, List.set_cons_succ])
  refine wpAnyT_take 12 (i := 2) (v := ?vvt3) (by (simp only [List.getElem?_toArray, List.getElem?_cons_zero, List.getElem?_cons_succ]) <;> rfl) (by kernel_rfl) (by kernel_rfl) (by kernel_rfl) (by kernel_rfl) (by kernel_rfl) (by rfl) ?hqt3 (Or.inl ⟨by rfl, ?hyt3⟩) (by assumption) ?_
  case hqt3 => exact fun _ _ _ h => h
  case hyt3 => ((intro w hSw; (try dsimp only at hSw); go_simp) <;> (with_reducible rfl))
  (try simp only [Act.put, List.setIfInBounds_toArray, List.set_cons_zero, List.set_cons_succ])
  refine wpAnyT_take 12 (i := 3) (v := ?vvt4) (by (simp only [List.getElem?_toArray, List.getElem?_cons_zero, List.getElem?_cons_succ]) <;> rfl) (by kernel_rfl) (by kernel_rfl) (by kernel_rfl) (by kernel_rfl) (by kernel_rfl) (by rfl) ?hqt4 (Or.inl ⟨by rfl, ?hyt4⟩) (by assumption) ?_
  case hqt4 => exact fun _ _ _ h => h
  case hyt4 => ((intro w hSw; (try dsimp only at hSw); go_simp) <;> (with_reducible rfl))
  (try simp only [Act.put, List.setIfInBounds_toArray, List.set_cons_zero, List.set_cons_succ])
  refine wpAnyT_take 12 (i := 4) (v := ?vvt5) (by (simp only [List.getElem?_toArray, List.getElem?_cons_zero, List.getElem?_cons_succ]) <;> rfl) (by kernel_rfl) (by kernel_rfl) (by kernel_rfl) (by kernel_rfl) (by kernel_rfl) (by rfl) ?hqt5 (Or.inl ⟨by rfl, ?hyt5⟩) (by assumption) ?_
  case hqt5 => exact fun _ _ _ h => h
  case hyt5 => ((intro w hSw; (try dsimp only at hSw); go_simp) <;> (with_reducible rfl))
  (try simp only [Act.put, List.setIfInBounds_toArray, List.set_cons_zero, List.set_cons_succ])
  refine wpAnyT_take 12 (i := 5) (v := ?vvt6) (by (simp only [List.getElem?_toArray, List.getElem?_cons_zero, List.getElem?_cons_succ]) <;> rfl) (by kernel_rfl) (by kernel_rfl) (by kernel_rfl) (by kernel_rfl) (by kernel_rfl) (by rfl) ?hqt6 (Or.inl ⟨by rfl, ?hyt6⟩) (by assumption) ?_
  case hqt6 => exact fun _ _ _ h => h
  case hyt6 => ((intro w hSw; (try dsimp only at hSw); go_simp) <;> (with_reducible rfl))
  (try simp only [Act.put, List.setIfInBounds_toArray, List.set_cons_zero, List.set_cons_succ])
  refine wpAnyT_take 12 (i := 6) (v := ?vvt7) (by (simp only [List.getElem?_toArray, List.getElem?_cons_zero, List.getElem?_cons_succ]) <;> rfl) (by kernel_rfl) (by kernel_rfl) (by kernel_rfl) (by kernel_rfl) (by kernel_rfl) (by rfl) ?hqt7 (Or.inl ⟨by rfl, ?hyt7⟩) (by assumption) ?_
  case hqt7 => exact fun _ _ _ h => h
  case hyt7 => ((intro w hSw; (try dsimp only at hSw); go_simp) <;> (with_reducible rfl))
  (try simp only [Act.put, List.setIfInBounds_toArray, List.set_cons_zero, List.set_cons_succ])
  refine wpAnyT_take 12 (i := 7) (v := ?vvt8) (by (simp only [List.getElem?_toArray, List.getElem?_cons_zero, List.getElem?_cons_succ]) <;> rfl) (by kernel_rfl) (by kernel_rfl) (by kernel_rfl) (by kernel_rfl) (by kernel_rfl) (by rfl) ?hqt8 (Or.inl ⟨by rfl, ?hyt8⟩) (by assumption) ?_
  case hqt8 => exact fun _ _ _ h => h
  case hyt8 => ((intro w hSw; (try dsimp only at hSw); go_simp) <;> (with_reducible rfl))
  (try simp only [Act.put, List.setIfInBounds_toArray, List.set_cons_zero, List.set_cons_succ])
  refine wpAnyT_take 12 (i := 8) (v := ?vvt9) (by (simp only [List.getElem?_toArray, List.getElem?_cons_zero, List.getElem?_cons_succ]) <;> rfl) (by kernel_rfl) (by kernel_rfl) (by kernel_rfl) (by kernel_rfl) (by kernel_rfl) (by rfl) ?hqt9 (Or.inl ⟨by rfl, ?hyt9⟩) (by assumption) ?_
  case hqt9 => exact fun _ _ _ h => h
  case hyt9 => ((intro w hSw; (try dsimp only at hSw); go_simp) <;> (with_reducible rfl))
  (try simp only [Act.put, List.setIfInBounds_toArray, List.set_cons_zero, List.set_cons_succ])
  refine wpAnyT_take 12 (i := 9) (v := ?vvt10) (by (simp only [List.getElem?_toArray, List.getElem?_cons_zero, List.getElem?_cons_succ]) <;> rfl) (by kernel_rfl) (by kernel_rfl) (by kernel_rfl) (by kernel_rfl) (by kernel_rfl) (by rfl) ?hqt10 (Or.inl ⟨by rfl, ?hyt10⟩) (by assumption) ?_
  case hqt10 => exact fun _ _ _ h => h
  case hyt10 => ((intro w hSw; (try dsimp only at hSw); go_simp) <;> (with_reducible rfl))
  (try simp only [Act.put, List.setIfInBounds_toArray, List.set_cons_zero, List.set_cons_succ])
  refine wpAnyT_take 12 (i := 10) (v := ?vvt11) (by (simp only [List.getElem?_toArray, List.getElem?_cons_zero, List.getElem?_cons_succ]) <;> rfl) (by kernel_rfl) (by kernel_rfl) (by kernel_rfl) (by kernel_rfl) (by kernel_rfl) (by rfl) ?hqt11 (Or.inl ⟨by rfl, ?hyt11⟩) (by assumption) ?_
  case hqt11 => exact fun _ _ _ h => h
  case hyt11 => ((intro w hSw; (try dsimp only at hSw); go_simp) <;> (with_reducible rfl))
  (try simp only [Act.put, List.setIfInBounds_toArray, List.set_cons_zero, List.set_cons_succ])
  refine wpAnyT_take 12 (i := 11) (v := ?vvt12) (by (simp only [List.getElem?_toArray, List.getElem?_cons_zero, List.getElem?_cons_succ]) <;> rfl) (by kernel_rfl) (by kernel_rfl) (by kernel_rfl) (by kernel_rfl) (by kernel_rfl) (by rfl) ?hqt12 (Or.inl ⟨by rfl, ?hyt12⟩) (by assumption) ?_
  case hqt12 => exact fun _ _ _ h => h
  case hyt12 => ((intro w hSw; (try dsimp only at hSw); go_simp) <;> (with_reducible rfl))
  (try simp only [Act.put, List.setIfInBounds_toArray, List.set_cons_zero, List.set_cons_succ])
  refine wpAnyT_take 12 (i := 12) (v := ?vvt13) (by (simp only [List.getElem?_toArray, List.getElem?_cons_zero, List.getElem?_cons_succ]) <;> rfl) (by kernel_rfl) (by kernel_rfl) (by kernel_rfl) (by kernel_rfl) (by kernel_rfl) (by rfl) ?hqt13 (Or.inl ⟨by rfl, ?hyt13⟩) (by assumption) ?_
  case hqt13 => exact fun _ _ _ h => h
  case hyt13 => ((intro w hSw; (try dsimp only at hSw); go_simp) <;> (with_reducible rfl))
  (try simp only [Act.put, List.setIfInBounds_toArray, List.set_cons_zero, List.set_cons_succ])
  refine wpAnyT_take 12 (i := 13) (v := ?vvt14) (by (simp only [List.getElem?_toArray, List.getElem?_cons_zero, List.getElem?_cons_succ]) <;> rfl) (by kernel_rfl) (by kernel_rfl) (by kernel_rfl) (by kernel_rfl) (by kernel_rfl) (by rfl) ?hqt14 (Or.inl ⟨by rfl, ?hyt14⟩) (by assumption) ?_
  case hqt14 => exact fun _ _ _ h => h
  case hyt14 => ((intro w hSw; (try dsimp only at hSw); go_simp) <;> (with_reducible rfl))
  (try simp only [Act.put, List.setIfInBounds_toArray, List.set_cons_zero, List.set_cons_succ])
  refine wpAnyT_take 12 (i := 14) (v := ?vvt15) (by (simp only [List.getElem?_toArray, List.getElem?_cons_zero, List.getElem?_cons_succ]) <;> rfl) (by kernel_rfl) (by kernel_rfl) (by kernel_rfl) (by kernel_rfl) (by kernel_rfl) (by rfl) ?hqt15 (Or.inl ⟨by rfl, ?hyt15⟩) (by assumption) ?_
  case hqt15 => exact fun _ _ _ h => h
  case hyt15 => ((intro w hSw; (try dsimp only at hSw); go_simp) <;> (with_reducible rfl))
  (try simp only [Act.put, List.setIfInBounds_toArray, List.set_cons_zero, List.set_cons_succ])
  refine wpAnyT_take 12 (i := 15) (v := ?vvt16) (by (simp only [List.getElem?_toArray, List.getElem?_cons_zero, List.getElem?_cons_succ]) <;> rfl) (by kernel_rfl) (by kernel_rfl) (by kernel_rfl) (by kernel_rfl) (by kernel_rfl) (by rfl) ?hqt16 (Or.inl ⟨by rfl, ?hyt16⟩) (by assumption) ?_
  case hqt16 => exact fun _ _ _ h => h
  case hyt16 => ((intro w hSw; (try dsimp only at hSw); go_simp) <;> (with_reducible rfl))
  (try simp only [Act.put, List.setIfInBounds_toArray, List.set_cons_zero, List.set_cons_succ])
  refine wpAnyT_ready (rs := [16]) (by kernel_rfl) (by simp) ?_
  refine (AllReadyT.cons (by (simp only [List.getElem?_toArray, List.getElem?_cons_zero, List.getElem?_cons_succ]) <;> rfl) (fun K hK => ?_) AllReadyT.nil)
  rw [if_pos (by rfl)]
  refine wp_buildL 17 (n : Int) (m : Int) rfl rfl ?_
  intro W1 hB1 hb1
  obtain ⟨v, W2, ⟨A2, c2, rfl⟩, hrun, ⟨k1, k2⟩, k3⟩ := hp.out _ W1 (bel_drew w) hB1 hb1
  have hk1 := hk.out W1 ((bel_drew w).trans (hb1.mono (bel_drew w).size))
  replace k3 := hide k3
  refine hK.out _ _ (by first | exact hk1 | exact k1) (fun hHeld => ?_)
  (try clear hK K)
  (try simp only [Act.put, List.setIfInBounds_toArray, List.set_cons_zero, List.set_cons_succ])
  refine wpAnyT_ready (rs := [17]) (by kernel_rfl) (by simp) ?_
  refine (AllReadyT.cons (by (simp only [List.getElem?_toArray, List.getElem?_cons_zero, List.getElem?_cons_succ]) <;> rfl) (fun K hK => ?_) AllReadyT.nil)
  rw [if_pos (by rfl)]
  refine wp_append_ex (.tmp 6) (.tmp 18) 30 rfl vL (.slice (some ⟨_, 0, none⟩) 1 1) rfl rfl (fun u W => u = _ ∧ W = W2) ⟨_, W2, hrun, rfl, rfl⟩ ?_
  rintro u W ⟨rfl, rfl⟩
  clear hrun
  refine hK.out _ _ (by first | exact hk1 | exact k1) (fun hHeld => ?_)
  (try clear hK K)
  (try simp only [Act.put, List.setIfInBounds_toArray, List.set_cons_zero, List.set_cons_succ])
  refine wpAnyT_take 12 (i := 18) (v := ?vvt17) (by (simp only [List.getElem?_toArray, List.getElem?_cons_zero, List.getElem?_cons_succ]) <;> rfl) (by kernel_rfl) (by kernel_rfl) (by kernel_rfl) (by kernel_rfl) (by kernel_rfl) (by rfl) ?hqt17 (Or.inl ⟨by rfl, ?hyt17⟩) (by assumption) ?_
  case hqt17 => exact fun _ _ _ h => h
  case hyt17 => ((intro w hSw; (try dsimp only at hSw); go_simp) <;> (with_reducible rfl))
  (try simp only [Act.put, List.setIfInBounds_toArray, List.set_cons_zero, List.set_cons_succ])
  refine wpAnyT_take 12 (i := 19) (v := ?vvt18) (by (simp only [List.getElem?_toArray, List.getElem?_cons_zero, List.getElem?_cons_succ]) <;> rfl) (by kernel_rfl) (by kernel_rfl) (by kernel_rfl) (by kernel_rfl) (by kernel_rfl) (by rfl) ?hqt18 (Or.inl ⟨by rfl, ?hyt18⟩) (by assumption) ?_
  case hqt18 => exact fun _ _ _ h => h
  case hyt18 => ((intro w hSw; (try dsimp only at hSw); go_simp) <;> (with_reducible rfl))
  (try simp only [Act.put, List.setIfInBounds_toArray, List.set_cons_zero, List.set_cons_succ])
  refine wpAnyT_ready (rs := [20]) (by kernel_rfl) (by simp) ?_
  refine (AllReadyT.last (by (simp only [List.getElem?_toArray, List.getElem?_cons_zero, List.getElem?_cons_succ]) <;> rfl) (by kernel_rfl) (fun K hK => ?_) AllReadyT.nil)
  go_simp
  refine hK.out _ _ ?_
  (try clear hK K)
  (try simp only [Act.put, List.setIfInBounds_toArray, List.set_cons_zero, List.set_cons_succ])
  refine wpAnyT_done (by kernel_rfl) ?_ _
  (try clear hHeld)
  go_wp2
  go_end0
  obtain ⟨R', q1, q2, q3⟩ := k3.out
  exact ⟨rfl, ⟨R', _, q1, q3⟩, q2⟩
end
end Nt
end Go.Proofs.Ytlcgdiciiibeeaa
