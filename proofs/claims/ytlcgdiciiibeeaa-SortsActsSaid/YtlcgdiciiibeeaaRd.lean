/-
  The reference's functions: found; declared.
-/
import Derived.Test.YtlcgdiciiibeeaaRc
namespace Go.Proofs.Ytlcgdiciiibeeaa
open Go.ChangeShapes Go.RowKit
namespace Nt
set_option maxRecDepth 100000
set_option linter.unusedSimpArgs false
set_option linter.unusedVariables false
section
variable {Z R : List Nat} {w w' w3 : World} {r : Nat} {nm : List ByteArray} {fs : List Fn} {L : List (Nat × Nat)} {AN : Option Addr} {cN : Nat} {AF : Option Addr} {cF : Nat} {vL : Value}
set_option maxHeartbeats 2000000 in
theorem ref_find_no (h : RfP Z w r R nm fs L AN cN AF cF vL) (hn : fs.length ≤ 1000) (s : ByteArray) (hno : ∀ j (h2 : j < fs.length), fs[j].nm.data.toList ≠ s.data.toList) :
    Calls Try.prog 19 #[.pointer (some ⟨r, 0, none⟩), .string s] w fun e w' => e = .returned (.tuple #[.agg #[.string ⟨#[]⟩, .slice none 0 0, .int .i64 0], .bool false]) ∧ Below w.heap.size w w' := by
  obtain ⟨W0, hW0⟩ : ∃ W, W = w.alloc (.cells #[.string ⟨#[]⟩, .slice none 0 0, .int .i64 0] 35) := ⟨_, rfl⟩
  have hX : Bk w.heap.size #[.string ⟨#[]⟩, .slice none 0 0, .int .i64 0] 35 W0 := by rw [hW0]; exact Bk.new _ _ _
  have hb0 : Below w.heap.size w W0 := by rw [hW0]; exact bel_al _ _
  have h0 := h.next hb0
  have a1 : W0.cell? ⟨r, 1, none⟩ = some (.slice AF fs.length cF) := h0.bk.cell rfl
  have hrd : ∀ k (hk : k < fs.length), ∃ b o, AF = some ⟨b, o, none⟩ ∧ W0.cell? ⟨b, o + k * 3, none⟩ = some (.string fs[k].nm) := by
    intro k hk
    obtain ⟨vs, f1, f2⟩ := h0.rF
    obtain ⟨A, c, q0, _⟩ := Fs.get f2 k hk
    exact f1.get q0
  have hend : Below w.heap.size w (((W0.setCell ⟨w.heap.size, 0, none⟩ (.string ⟨#[]⟩)).setCell ⟨w.heap.size, 1, none⟩ (.slice none 0 0)).setCell ⟨w.heap.size, 2, none⟩ (.int .i64 0)) := by
    have hO : Off [w.heap.size] W0 (((W0.setCell ⟨w.heap.size, 0, none⟩ (.string ⟨#[]⟩)).setCell ⟨w.heap.size, 1, none⟩ (.slice none 0 0)).setCell ⟨w.heap.size, 2, none⟩ (.int .i64 0)) :=
      (((Off.refl _ _).setCell _ _ (.inl (by simp))).setCell _ _ (.inl (by simp))).setCell _ _ (.inl (by simp))
    exact hb0.trans (hO.below hb0.size (by intro b hb; simp at hb; omega))
  have d0 : W0.cell? ⟨w.heap.size, 0, none⟩ = some (.string ⟨#[]⟩) := hX.cell rfl
  have d1 : W0.cell? ⟨w.heap.size, 1, none⟩ = some (.slice none 0 0) := hX.cell rfl
  have d2 : W0.cell? ⟨w.heap.size, 2, none⟩ = some (.int .i64 0) := hX.cell rfl
  have f0 := hX.free 0
  have f1 := hX.free 1
  have f2 := hX.free 2
  have e3 : ∀ b : ByteArray, binOp .eql 9 (.string b) (.string s) = pure (.bool (b.data.toList == s.data.toList)) := fun b => eql_s _ b s
  have hW := hide hW0
  replace hrd := hide hrd; replace hend := hide hend; replace e3 := hide e3
  clear h h0 hX hb0 hW0
  obtain ⟨n, hn'⟩ : ∃ n, n = fs.length := ⟨_, rfl⟩
  rw [← hn'] at a1 hn
  replace hn' := hide hn'
  replace hno := hide hno
  go_enter Try.func19, Try.ntmps19
  go_wp2
  rw [← hW.out]
  go_loop [6] (fun i => ∃ k : Nat, k ≤ n ∧ i = .int .i64 (k : Int)) (fun i => n - (intOf i).toNat)
  case atStart => exact ⟨0, Nat.zero_le _, rfl⟩
  case round =>
    obtain ⟨k, hk, rfl⟩ := hrel
    by_cases hkn : k < n
    · have hkl : k < fs.length := by rw [← hn'.out]; exact hkn
      obtain ⟨b, o, rfl, c0⟩ := hrd.out k hkl
      have e4 := e3.out fs[k].nm
      rw [beq_eq_false_iff_ne.2 (hno.out k hkl)] at e4
      generalize fs[k].nm = nmk at *
      go_wp2
      go_round
      case rel => exact ⟨k + 1, by omega, by go_num⟩
      case measure => simp [intOf]; omega
    · have hkd : decide (k < n) = false := decide_eq_false hkn
      go_wp2
      exact bodyPost_ret (v := .tuple #[.agg #[.string ⟨#[]⟩, .slice none 0 0, .int .i64 0], .bool false]) (by simp [results, Try.results19, go_sem, d0, d1, d2]) rfl ⟨rfl, hend.out⟩

/-- The functions are others. -/
theorem rf_funs (h : RfP Z w r R nm fs L AN cN AF cF vL) (hZ : ∀ b ∈ Z, b < w.heap.size) (hb : Below w.heap.size w w3) {g c3 : Nat} {fs' : List Fn} {vs : List Value} (hrow : w3.ownsRow 0 35 3 (.slice (some ⟨g, 0, none⟩) fs'.length c3) fs'.length vs) (hg : w.heap.size ≤ g) (hF : Fs (R ++ Z) w3 fs' vs) :
    RfP Z (w3.setCell ⟨r, 1, none⟩ (.slice (some ⟨g, 0, none⟩) fs'.length c3)) r R nm fs' L AN cN (some ⟨g, 0, none⟩) c3 vL ∧ Off R w (w3.setCell ⟨r, 1, none⟩ (.slice (some ⟨g, 0, none⟩) fs'.length c3)) ∧ w3.cell? ⟨r, 1, none⟩ = some (.slice AF fs.length cF) ∧ w3.frozen? ⟨r, 1, none⟩ = false := by
  have h3 := h.next hb
  have hO : Off [r] w3 (w3.setCell ⟨r, 1, none⟩ (.slice (some ⟨g, 0, none⟩) fs'.length c3)) := (Off.refl _ _).setCell _ _ (.inl (by simp))
  have hrR : r ∈ R := by rw [h.eR]; simp
  have hgn : g ∉ R ++ Z := fun hm => (List.mem_append.1 hm).elim (fun h' => Nat.not_lt.2 hg (h.lt g h')) (fun h' => Nat.not_lt.2 hg (hZ g h'))
  have hsub : ∀ b ∈ [r], b ∈ R ++ Z ∨ w3.heap.size ≤ b := by intro b hb; simp at hb; subst hb; exact .inl (List.mem_append_left _ hrR)
  have hcap : fs'.length ≤ c3 ∧ c3 ≤ maxLen := by
    rcases hrow.2 with ⟨e, _⟩ | ⟨_, cap, cur, e, _, _, q1, q2, _⟩
    · cases e
    · cases e; exact ⟨q1, q2⟩
  have hvr : ∀ k, vL.ownBlock = some k → k ∉ [r] := fun k hk hm => by
    have := h.once
    rw [h.eR, List.nodup_cons] at this
    simp at hm
    subst hm
    exact this.1 (by rw [Option.mem_toList]; exact hk)
  refine ⟨⟨h3.bk.set _ rfl, h3.nN, ⟨hcap.1, hcap.2, by simp⟩, h3.rN.off hO hsub (fun b hb => .inl hb), ⟨vs, (Rv.of_row hrow (fun k hk => by cases hk; exact hgn)).off hO hsub (fun b hb => .inl hb), hF.off hO hsub (fun b hb => .inl hb)⟩, Off.row h3.rL hO hvr, h.eR, h.once, h.ap⟩, ?_, h3.bk.cell rfl, h3.bk.free 1⟩
  exact ((Off.of_below hb R)).trans (hO.more (T' := R) (by intro b hb; simp at hb; subst hb; exact hrR)) (fun b hb => .inl hb)

theorem Fs.one {T : List Nat} : ∀ {fs : List Fn} {vs : List Value}, Fs T w fs vs → ∀ u ∈ vs, u.oneCell' = true
  | [], vs, h, u, hu => by cases h; simp at hu
  | f :: fs, vs, ⟨A, c, r, e, _, _, h⟩, u, hu => by
    subst e
    simp only [List.mem_cons] at hu
    rcases hu with rfl | rfl | rfl | hu
    · rfl
    · rfl
    · rfl
    · exact Fs.one h u hu

set_option maxHeartbeats 8000000 in
theorem ref_fun (h : RfP Z w r R nm fs L AN cN AF cF vL) (hZ : ∀ b ∈ Z, b < w.heap.size) (hnn : nm.length ≤ 1000) (hfl : fs.length < 1000) (nf : ByteArray) (B : Option Addr) (ar : List Int) (d : Nat) (rs : Int) (hi : Ir [] w B ar) (hd : B = none → d = 0) (hs : nf.size ≤ 9223372036854775807)
    (hf : nameB nf = true) (hno : ∀ j (h2 : j < fs.length), fs[j].nm.data.toList ≠ nf.data.toList) (ht : typedB nm.length ar rs = true) :
    Calls Try.prog 13 #[.pointer (some ⟨r, 0, none⟩), .agg #[.string nf, .slice B ar.length d, .int .i64 rs]] w fun e w' => e = .returned (.int .i64 0) ∧ (∃ AF' cF', RfP Z w' r R nm (fs ++ [⟨nf, ar, rs⟩]) L AN cN AF' cF' vL) ∧ Off R w w' := by
  obtain ⟨hal, hkr, hka⟩ : ar.length ≤ 64 ∧ knownB nm.length rs = true ∧ ∀ k (hk : k < ar.length), ar[k] ≠ 0 ∧ knownB nm.length ar[k] = true := by
    simp only [typedB, Bool.and_eq_true, decide_eq_true_eq, List.all_eq_true] at ht
    refine ⟨ht.1.1, ht.1.2, fun k hk => ?_⟩
    have := ht.2 ar[k] (List.getElem_mem hk)
    simp only [argB, Bool.and_eq_true, decide_eq_true_eq] at this
    exact this
  obtain ⟨W0, hW0⟩ : ∃ W, W = w.alloc (.cells #[.string nf, .slice B ar.length d, .int .i64 rs] 35) := ⟨_, rfl⟩
  have hX : Bk w.heap.size #[.string nf, .slice B ar.length d, .int .i64 rs] 35 W0 := by rw [hW0]; exact Bk.new _ _ _
  have hb0 : Below w.heap.size w W0 := by rw [hW0]; exact bel_al _ _
  have hfind := ref_find_no (h.next hb0) (by omega) nf hno
  have x0 : W0.cell? ⟨w.heap.size, 0, none⟩ = some (.string nf) := hX.cell rfl
  have hgl : w.heap.size < W0.heap.size := hX.lt
  -- what is known behind the two calls
  have hk2 : ∀ W2, Below W0.heap.size W0 W2 → ∀ W, Below W2.heap.size W2 W → (W.cell? ⟨w.heap.size, 0, none⟩ = some (.string nf) ∧ W.cell? ⟨w.heap.size, 1, none⟩ = some (.slice B ar.length d) ∧ W.cell? ⟨w.heap.size, 2, none⟩ = some (.int .i64 rs) ∧ W.cell? ⟨r, 1, none⟩ = some (.slice AF fs.length cF)) ∧ Below W2.heap.size W2 W := by
    intro W2 hb2 W hb
    have hbb : Below W0.heap.size W0 W := hb2.trans (hb.mono hb2.size)
    have hB := hX.next hbb
    exact ⟨⟨hB.cell rfl, hB.cell rfl, hB.cell rfl, ((h.next hb0).next hbb).bk.cell rfl⟩, hb⟩
  have hk3 : ∀ W2, Below W0.heap.size W0 W2 → RfP Z W2 r R nm fs L AN cN AF cF vL ∧ Ir [] W2 B ar ∧ Below w.heap.size w W2 := by
    intro W2 hb2
    have hbw : Below w.heap.size w W2 := hb0.trans (hb2.mono hb0.size)
    exact ⟨h.next hbw, hi.off (Off.of_below hbw []) (by simp) (by simp), hbw⟩
  have hname : ∀ W, Calls Try.prog 36 #[.string nf] W fun e w' => e = .returned (.bool true) ∧ Below W.heap.size W w' := fun W => by
    have := ref_name nf hs W
    rwa [hf] at this
  have his : ∀ W2, RfP Z W2 r R nm fs L AN cN AF cF vL → ∀ x, knownB nm.length x = true → Calls Try.prog 39 #[.pointer (some ⟨r, 0, none⟩), .int .i64 x] W2 fun e w' => e = .returned (.bool true) ∧ W2 = w' := fun W2 h2 x hx => by
    have := ref_is h2 (by omega) x
    rwa [hx] at this
  have hfin : ∀ W2, RfP Z W2 r R nm fs L AN cN AF cF vL → Below w.heap.size w W2 → ∃ vs, vs.length = fs.length * 3 ∧ Rv (R ++ Z) W2 AF vs ∧ (∀ u ∈ vs, u.oneCell' = true) ∧ ∀ (g c3 : Nat) (A2 : Option Addr) (c2 : Nat) (W' : World), W2.heap.size ≤ g → Below W2.heap.size W2 W' → W'.ownsRow 0 35 3 (.slice (some ⟨g, 0, none⟩) (fs.length + 1) c3) (fs.length + 1) (vs ++ [.string nf, .slice A2 ar.length c2, .int .i64 rs]) →
      (∀ Z' : List Nat, (∀ b ∈ Z', b < W2.heap.size) → Ir Z' W' A2 ar) → W'.cell? ⟨r, 1, none⟩ = some (.slice AF fs.length cF) ∧ W'.frozen? ⟨r, 1, none⟩ = false ∧ RfP Z (W'.setCell ⟨r, 1, none⟩ (.slice (some ⟨g, 0, none⟩) (fs.length + 1) c3)) r R nm (fs ++ [⟨nf, ar, rs⟩]) L AN cN (some ⟨g, 0, none⟩) c3 vL ∧ Off R w (W'.setCell ⟨r, 1, none⟩ (.slice (some ⟨g, 0, none⟩) (fs.length + 1) c3)) := by
    intro W2 h2 hb2
    obtain ⟨vs, f1, f2⟩ := h2.rF
    refine ⟨vs, Fs.length f2, f1, Fs.one f2, fun g c3 A2 c2 W' hg hb hrow hI => ?_⟩
    have hZ2 : ∀ b ∈ Z, b < W2.heap.size := fun b hb => Nat.lt_of_lt_of_le (hZ b hb) hb2.size
    have hRZ : ∀ b ∈ R ++ Z, b < W2.heap.size := fun b hb => (List.mem_append.1 hb).elim (h2.lt b) (hZ2 b)
    have hlen : (fs ++ [⟨nf, ar, rs⟩] : List Fn).length = fs.length + 1 := by simp
    have hF' : Fs (R ++ Z) W' (fs ++ [⟨nf, ar, rs⟩]) (vs ++ [.string nf, .slice A2 ar.length c2, .int .i64 rs]) := Fs.snoc (f := ⟨nf, ar, rs⟩) (hI _ hRZ) hal (f2.off (Off.of_below hb []) (by simp) (fun b hb => .inl hb))
    rw [← hlen] at hrow ⊢
    obtain ⟨k1, k2, k3, k4⟩ := rf_funs h2 hZ2 hb hrow hg hF'
    exact ⟨k3, k4, k1, (Off.of_below hb2 R).trans k2 (fun b hb => .inl hb)⟩
  have hcF := h.nF.2.2
  obtain ⟨n, hn⟩ : ∃ n, n = fs.length := ⟨_, rfl⟩
  obtain ⟨m, hm⟩ : ∃ m, m = ar.length := ⟨_, rfl⟩
  simp only [← hn, ← hm] at hk2
  simp only [← hn] at hfin
  rw [← hn] at hfl
  have hm64 : m ≤ 64 := by omega
  have hargs : ∀ W2, Ir [] W2 B ar → ∀ k (hk : k < m), ∃ b o x, B = some ⟨b, o, none⟩ ∧ W2.cell? ⟨b, o + k, none⟩ = some (.int .i64 x) ∧ x ≠ 0 ∧ knownB nm.length x = true := by
    intro W2 hI k hk
    have hkl : k < ar.length := by omega
    rcases hI with e | ⟨b, o, e1, _, _, e4⟩
    · rw [e] at hkl; simp at hkl
    · refine ⟨b, o, ar[k], e1, ?_, (hka k hkl).1, (hka k hkl).2⟩
      rw [e4 k hkl]; simp [List.getD, List.getElem?_eq_getElem hkl]
  rw [← hm] at hW0 ⊢
  have hW := hide hW0
  replace hk2 := hide hk2; replace hk3 := hide hk3; replace hname := hide hname; replace his := hide his; replace hfin := hide hfin; replace hfind := hide hfind; replace hargs := hide hargs; replace hkr := hide hkr; replace hn := hide hn; replace hm := hide hm; replace hcF := hide hcF; replace hd := hide hd
  clear h hX hb0 hf ht hno hi hZ hal hka hW0
  go_enter Try.func13, Try.ntmps13
  go_wp2_with first
    | (go_at_call 19; rw [← hW.out]; (with_reducible refine hfind.out.mono ?_); rintro e w1 ⟨rfl, hb1⟩; have y0 := (hk2.out w1 hb1 (w1.alloc (.cells #[.string ⟨#[]⟩, .slice none 0 0, .int .i64 0] 35)) (bel_al _ _)).1.1; have hbA : Hid (Below W0.heap.size W0 (w1.alloc (.cells #[.string ⟨#[]⟩, .slice none 0 0, .int .i64 0] 35))) := hide (hb1.trans ((bel_al w1 _).mono hb1.size)); clear hb1)
    | (go_at_call 36; (with_reducible refine (hname.out _).mono ?_); rintro e w2 ⟨rfl, hb⟩; have hb2 := hbA.out.trans (hb.mono hbA.out.size); obtain ⟨⟨x0, x1, x2, x3⟩, -⟩ := hk2.out w2 hb2 w2 (.refl _ _); obtain ⟨hR2, hI2, hbw2⟩ := hk3.out w2 hb2; have his2 := hide (his.out w2 hR2); replace hb2 := hide hb2; replace hR2 := hide hR2; replace hI2 := hide hI2; replace hbw2 := hide hbw2; clear hb y0 hbA)
    | (go_at_call 39; (with_reducible refine (his2.out rs hkr.out).mono ?_); rintro e w3 ⟨rfl, rfl⟩)
  go_loop [7] (fun i => ∃ k : Nat, k ≤ m ∧ i = .int .i64 (k : Int)) (fun i => m - (intOf i).toNat)
  case atStart => exact ⟨0, Nat.zero_le _, rfl⟩
  case round =>
    obtain ⟨k, hk, rfl⟩ := hrel
    by_cases hkm : k < m
    · obtain ⟨b, o, x, rfl, c0, hx0, hxk⟩ := hargs.out w2 hI2.out k hkm
      have hxz : (x == 0) = false := beq_eq_false_iff_ne.2 hx0
      have his3 := his2.out x hxk
      clear hxk hx0
      go_wp2_with (go_at_call 39; (with_reducible refine his3.mono ?_); rintro e w3 ⟨rfl, rfl⟩)
      go_round
      case rel => exact ⟨k + 1, by omega, by go_num⟩
      case measure => simp [intOf]; omega
    · have hkd : decide (k < m) = false := decide_eq_false hkm
      have hnd : decide (1000 ≤ n) = false := decide_eq_false (by omega)
      obtain ⟨vs, fl, f1, fo, hfin2⟩ := hfin.out w2 hR2.out hbw2.out
      have st := St.start (W := w2.drew) w2 vs n (bel_drew w2)
      replace fl := hide fl; replace f1 := hide f1; replace fo := hide fo; replace hfin2 := hide hfin2; replace st := hide st
      go_wp2
      refine wp_region_T (fun W => (W.cell? ⟨w.heap.size, 0, none⟩ = some (.string nf) ∧ W.cell? ⟨w.heap.size, 1, none⟩ = some (.slice B m d) ∧ W.cell? ⟨w.heap.size, 2, none⟩ = some (.int .i64 rs) ∧ W.cell? ⟨r, 1, none⟩ = some (.slice AF n cF)) ∧ Below w2.heap.size w2 W) 20 (by kernel_rfl) (hk2.out w2 hb2.out _ (bel_drew w2)) (fun hHeld => ?_)
      refine wpAnyT_take 12 (i := 0) (v := ?vvt1) (by (simp only [List.getElem?_toArray, List.getElem?_cons_zero, List.getElem?_cons_succ]) <;> rfl) (by kernel_rfl) (by kernel_rfl) (by kernel_rfl) (by kernel_rfl) (by kernel_rfl) (by rfl) ?hqt1 (Or.inl ⟨by rfl, ?hyt1⟩) (by assumption) ?_
      case hqt1 => exact fun _ _ _ h => h
      case hyt1 => ((intro w hSw; (try dsimp only at hSw); go_simp) <;> (with_reducible rfl))
      (try simp only [Act.put, List.setIfInBounds_toArray, List.set_cons_zero, List.set_cons_succ])
      refine wpAnyT_take 12 (i := 2) (v := ?vvt2) (by (simp only [List.getElem?_toArray, List.getElem?_cons_zero, List.getElem?_cons_succ]) <;> rfl) (by kernel_rfl) (by kernel_rfl) (by kernel_rfl) (by kernel_rfl) (by kernel_rfl) (by rfl) ?hqt2 (Or.inl ⟨by rfl, ?hyt2⟩) (by assumption) ?_
      case hqt2 => exact fun _ _ _ h => h
      case hyt2 => ((intro w hSw; (try dsimp only at hSw); go_simp) <;> (with_reducible rfl))
      (try simp only [Act.put, List.setIfInBounds_toArray, List.set_cons_zero, List.set_cons_succ])
      refine wpAnyT_take 12 (i := 3) (v := ?vvt3) (by (simp only [List.getElem?_toArray, List.getElem?_cons_zero, List.getElem?_cons_succ]) <;> rfl) (by kernel_rfl) (by kernel_rfl) (by kernel_rfl) (by kernel_rfl) (by kernel_rfl) (by rfl) ?hqt3 (Or.inl ⟨by rfl, ?hyt3⟩) (by assumption) ?_
      case hqt3 => exact fun _ _ _ h => h
      case hyt3 => ((intro w hSw; (try dsimp only at hSw); go_simp) <;> (with_reducible rfl))
      (try simp only [Act.put, List.setIfInBounds_toArray, List.set_cons_zero, List.set_cons_succ])
      refine wpAnyT_take 12 (i := 4) (v := ?vvt4) (by (simp only [List.getElem?_toArray, List.getElem?_cons_zero, List.getElem?_cons_succ]) <;> rfl) (by kernel_rfl) (by kernel_rfl) (by kernel_rfl) (by kernel_rfl) (by kernel_rfl) (by rfl) ?hqt4 (Or.inl ⟨by rfl, ?hyt4⟩) (by assumption) ?_
      case hqt4 => exact fun _ _ _ h => h
      case hyt4 => ((intro w hSw; (try dsimp only at hSw); go_simp) <;> (with_reducible rfl))
      (try simp only [Act.put, List.setIfInBounds_toArray, List.set_cons_zero, List.set_cons_succ])
      refine wpAnyT_take 12 (i := 5) (v := ?vvt5) (by (simp only [List.getElem?_toArray, List.getElem?_cons_zero, List.getElem?_cons_succ]) <;> rfl) (by kernel_rfl) (by kernel_rfl) (by kernel_rfl) (by kernel_rfl) (by kernel_rfl) (by rfl) ?hqt5 (Or.inl ⟨by rfl, ?hyt5⟩) (by assumption) ?_
      case hqt5 => exact fun _ _ _ h => h
      case hyt5 => ((intro w hSw; (try dsimp only at hSw); go_simp) <;> (with_reducible rfl))
      (try simp only [Act.put, List.setIfInBounds_toArray, List.set_cons_zero, List.set_cons_succ])
      refine wpAnyT_take 12 (i := 7) (v := ?vvt6) (by (simp only [List.getElem?_toArray, List.getElem?_cons_zero, List.getElem?_cons_succ]) <;> rfl) (by kernel_rfl) (by kernel_rfl) (by kernel_rfl) (by kernel_rfl) (by kernel_rfl) (by rfl) ?hqt6 (Or.inl ⟨by rfl, ?hyt6⟩) (by assumption) ?_
      case hqt6 => exact fun _ _ _ h => h
      case hyt6 => ((intro w hSw; (try dsimp only at hSw); go_simp) <;> (with_reducible rfl))
      (try simp only [Act.put, List.setIfInBounds_toArray, List.set_cons_zero, List.set_cons_succ])
      refine wpAnyT_take 12 (i := 8) (v := ?vvt7) (by (simp only [List.getElem?_toArray, List.getElem?_cons_zero, List.getElem?_cons_succ]) <;> rfl) (by kernel_rfl) (by kernel_rfl) (by kernel_rfl) (by kernel_rfl) (by kernel_rfl) (by rfl) ?hqt7 (Or.inl ⟨by rfl, ?hyt7⟩) (by assumption) ?_
      case hqt7 => exact fun _ _ _ h => h
      case hyt7 => ((intro w hSw; (try dsimp only at hSw); go_simp) <;> (with_reducible rfl))
      (try simp only [Act.put, List.setIfInBounds_toArray, List.set_cons_zero, List.set_cons_succ])
      refine wpAnyT_take 12 (i := 10) (v := ?vvt8) (by (simp only [List.getElem?_toArray, List.getElem?_cons_zero, List.getElem?_cons_succ]) <;> rfl) (by kernel_rfl) (by kernel_rfl) (by kernel_rfl) (by kernel_rfl) (by kernel_rfl) (by rfl) ?hqt8 (Or.inl ⟨by rfl, ?hyt8⟩) (by assumption) ?_
      case hqt8 => exact fun _ _ _ h => h
      case hyt8 => ((intro w hSw; (try dsimp only at hSw); go_simp) <;> (with_reducible rfl))
      (try simp only [Act.put, List.setIfInBounds_toArray, List.set_cons_zero, List.set_cons_succ])
      refine wpAnyT_take 12 (i := 11) (v := ?vvt9) (by (simp only [List.getElem?_toArray, List.getElem?_cons_zero, List.getElem?_cons_succ]) <;> rfl) (by kernel_rfl) (by kernel_rfl) (by kernel_rfl) (by kernel_rfl) (by kernel_rfl) (by rfl) ?hqt9 (Or.inl ⟨by rfl, ?hyt9⟩) (by assumption) ?_
      case hqt9 => exact fun _ _ _ h => h
      case hyt9 => ((intro w hSw; (try dsimp only at hSw); go_simp) <;> (with_reducible rfl))
      (try simp only [Act.put, List.setIfInBounds_toArray, List.set_cons_zero, List.set_cons_succ])
      refine wpAnyT_take 12 (i := 13) (v := ?vvt10) (by (simp only [List.getElem?_toArray, List.getElem?_cons_zero, List.getElem?_cons_succ]) <;> rfl) (by kernel_rfl) (by kernel_rfl) (by kernel_rfl) (by kernel_rfl) (by kernel_rfl) (by rfl) ?hqt10 (Or.inl ⟨by rfl, ?hyt10⟩) (by assumption) ?_
      case hqt10 => exact fun _ _ _ h => h
      case hyt10 => ((intro w hSw; (try dsimp only at hSw); go_simp) <;> (with_reducible rfl))
      (try simp only [Act.put, List.setIfInBounds_toArray, List.set_cons_zero, List.set_cons_succ])
      refine wpAnyT_take 12 (i := 14) (v := ?vvt11) (by (simp only [List.getElem?_toArray, List.getElem?_cons_zero, List.getElem?_cons_succ]) <;> rfl) (by kernel_rfl) (by kernel_rfl) (by kernel_rfl) (by kernel_rfl) (by kernel_rfl) (by rfl) ?hqt11 (Or.inl ⟨by rfl, ?hyt11⟩) (by assumption) ?_
      case hqt11 => exact fun _ _ _ h => h
      case hyt11 => ((intro w hSw; (try dsimp only at hSw); go_simp) <;> (with_reducible rfl))
      (try simp only [Act.put, List.setIfInBounds_toArray, List.set_cons_zero, List.set_cons_succ])
      refine wpAnyT_ready (rs := [1, 9]) (by kernel_rfl) (by simp) ?_
      refine (AllReadyT.cons (by (simp only [List.getElem?_toArray, List.getElem?_cons_zero, List.getElem?_cons_succ]) <;> rfl) (fun K hK => ?_) (AllReadyT.cons (by (simp only [List.getElem?_toArray, List.getElem?_cons_zero, List.getElem?_cons_succ]) <;> rfl) (fun K hK => ?_) AllReadyT.nil))
      · rw [if_pos (by rfl)]
        refine wp_build0 29 35 3 rfl Try.underlying29 Try.sizeOf35 ?_
        intro W1 hB1 hb1
        have st := hide (St.a1 st.out hB1 hb1)
        refine hK.out _ _ (by first | exact hk2.out w2 hb2.out _ st.out.bl | exact hk2.out w2 hb2.out _ md.out.bl | exact hk2.out w2 hb2.out _ hb16.out | exact hk2.out w2 hb2.out _ hb17.out) (fun hHeld => ?_)
        (try clear hK K)
        (try simp only [Act.put, List.setIfInBounds_toArray, List.set_cons_zero, List.set_cons_succ])
        refine wpAnyT_ready (rs := [6, 9]) (by kernel_rfl) (by simp) ?_
        refine (AllReadyT.cons (by (simp only [List.getElem?_toArray, List.getElem?_cons_zero, List.getElem?_cons_succ]) <;> rfl) (fun K hK => ?_) (AllReadyT.cons (by (simp only [List.getElem?_toArray, List.getElem?_cons_zero, List.getElem?_cons_succ]) <;> rfl) (fun K hK => ?_) AllReadyT.nil))
        · rw [if_pos (by rfl)]
          refine wp_append_ex (.tmp 65) (.tmp 69) 29 rfl (.slice (some ⟨_, 0, none⟩) 0 0) (.slice AF n cF) rfl rfl _ (St.p6 st.out AF cF (R ++ Z) f1.out fl.out fo.out (by omega) hcF.out) ?_
          rintro v1 W6 st
          replace st := hide st
          refine hK.out _ _ (by first | exact hk2.out w2 hb2.out _ st.out.bl | exact hk2.out w2 hb2.out _ md.out.bl | exact hk2.out w2 hb2.out _ hb16.out | exact hk2.out w2 hb2.out _ hb17.out) (fun hHeld => ?_)
          (try clear hK K)
          (try simp only [Act.put, List.setIfInBounds_toArray, List.set_cons_zero, List.set_cons_succ])
          refine wpAnyT_ready (rs := [9]) (by kernel_rfl) (by simp) ?_
          refine (AllReadyT.cons (by (simp only [List.getElem?_toArray, List.getElem?_cons_zero, List.getElem?_cons_succ]) <;> rfl) (fun K hK => ?_) AllReadyT.nil)
          rw [if_pos (by rfl)]
          refine wp_build0 33 3 1 rfl Try.underlying33 Try.sizeOf3 ?_
          intro W9 hB9 hb9
          have st := hide (St.a9 st.out hB9 hb9)
          refine hK.out _ _ (by first | exact hk2.out w2 hb2.out _ st.out.bl | exact hk2.out w2 hb2.out _ md.out.bl | exact hk2.out w2 hb2.out _ hb16.out | exact hk2.out w2 hb2.out _ hb17.out) (fun hHeld => ?_)
          (try clear hK K)
          (try simp only [Act.put, List.setIfInBounds_toArray, List.set_cons_zero, List.set_cons_succ])
          refine wpAnyT_ready (rs := [12]) (by kernel_rfl) (by simp) ?_
          refine (AllReadyT.cons (by (simp only [List.getElem?_toArray, List.getElem?_cons_zero, List.getElem?_cons_succ]) <;> rfl) (fun K hK => ?_) AllReadyT.nil)
          rw [if_pos (by rfl)]
          refine wp_append_ex (.tmp 73) (.tmp 75) 33 rfl (.slice (some ⟨_, 0, none⟩) 0 0) (.slice B m d) rfl rfl _ (by have q := St.p12 (ar := ar) st.out B d [] hI2.out (by have := hm.out; omega) hd.out; rw [← hm.out] at q; exact q) ?_
          rintro u12 W12 ⟨A2, c2, rfl, md⟩
          replace md := hide md
          refine hK.out _ _ (by first | exact hk2.out w2 hb2.out _ st.out.bl | exact hk2.out w2 hb2.out _ md.out.bl | exact hk2.out w2 hb2.out _ hb16.out | exact hk2.out w2 hb2.out _ hb17.out) (fun hHeld => ?_)
          (try clear hK K)
          (try simp only [Act.put, List.setIfInBounds_toArray, List.set_cons_zero, List.set_cons_succ])
          refine wpAnyT_take 12 (i := 15) (v := ?vvt12) (by (simp only [List.getElem?_toArray, List.getElem?_cons_zero, List.getElem?_cons_succ]) <;> rfl) (by kernel_rfl) (by kernel_rfl) (by kernel_rfl) (by kernel_rfl) (by kernel_rfl) (by rfl) ?hqt12 (Or.inl ⟨by rfl, ?hyt12⟩) (by assumption) ?_
          case hqt12 => exact fun _ _ _ h => h
          case hyt12 => ((intro w hSw; (try dsimp only at hSw); go_simp) <;> (with_reducible rfl))
          (try simp only [Act.put, List.setIfInBounds_toArray, List.set_cons_zero, List.set_cons_succ])
          refine wpAnyT_ready (rs := [16]) (by kernel_rfl) (by simp) ?_
          refine (AllReadyT.cons (by (simp only [List.getElem?_toArray, List.getElem?_cons_zero, List.getElem?_cons_succ]) <;> rfl) (fun K hK => ?_) AllReadyT.nil)
          rw [if_pos (by rfl)]
          refine wp_buildF 79 nf A2 m c2 rs rfl rfl ?_
          intro W16 hB16 hb16'
          have hb16 := hide (md.out.bl.trans (hb16'.mono md.out.bl.size))
          rw [hm.out] at hB16
          replace hB16 := hide hB16
          replace hb16' := hide hb16'
          refine hK.out _ _ (by first | exact hk2.out w2 hb2.out _ st.out.bl | exact hk2.out w2 hb2.out _ md.out.bl | exact hk2.out w2 hb2.out _ hb16.out | exact hk2.out w2 hb2.out _ hb17.out) (fun hHeld => ?_)
          (try clear hK K)
          (try simp only [Act.put, List.setIfInBounds_toArray, List.set_cons_zero, List.set_cons_succ])
          refine wpAnyT_ready (rs := [17]) (by kernel_rfl) (by simp) ?_
          refine (AllReadyT.cons (by (simp only [List.getElem?_toArray, List.getElem?_cons_zero, List.getElem?_cons_succ]) <;> rfl) (fun K hK => ?_) AllReadyT.nil)
          rw [if_pos (by rfl)]
          refine wp_append_ex (.tmp 70) (.tmp 80) 29 rfl v1 (.slice (some ⟨_, 0, none⟩) 1 1) rfl rfl _ (Mid.p17 md.out hB16.out hb16'.out (by omega)) ?_
          rintro u17 W17 ⟨g, c3, rfl, hg17, hb17, hrow17, hI17⟩
          obtain ⟨k1, k2, k3, k4⟩ := hfin2.out g c3 A2 c2 W17 hg17 hb17 hrow17 hI17
          replace hb17 := hide hb17; replace k3 := hide k3; replace k4 := hide k4; clear hrow17 hI17
          refine hK.out _ _ (by first | exact hk2.out w2 hb2.out _ st.out.bl | exact hk2.out w2 hb2.out _ md.out.bl | exact hk2.out w2 hb2.out _ hb16.out | exact hk2.out w2 hb2.out _ hb17.out) (fun hHeld => ?_)
          (try clear hK K)
          (try simp only [Act.put, List.setIfInBounds_toArray, List.set_cons_zero, List.set_cons_succ])
          refine wpAnyT_take 12 (i := 18) (v := ?vvt13) (by (simp only [List.getElem?_toArray, List.getElem?_cons_zero, List.getElem?_cons_succ]) <;> rfl) (by kernel_rfl) (by kernel_rfl) (by kernel_rfl) (by kernel_rfl) (by kernel_rfl) (by rfl) ?hqt13 (Or.inl ⟨by rfl, ?hyt13⟩) (by assumption) ?_
          case hqt13 => exact fun _ _ _ h => h
          case hyt13 => ((intro w hSw; (try dsimp only at hSw); go_simp) <;> (with_reducible rfl))
          (try simp only [Act.put, List.setIfInBounds_toArray, List.set_cons_zero, List.set_cons_succ])
          refine wpAnyT_take 12 (i := 19) (v := ?vvt14) (by (simp only [List.getElem?_toArray, List.getElem?_cons_zero, List.getElem?_cons_succ]) <;> rfl) (by kernel_rfl) (by kernel_rfl) (by kernel_rfl) (by kernel_rfl) (by kernel_rfl) (by rfl) ?hqt14 (Or.inl ⟨by rfl, ?hyt14⟩) (by assumption) ?_
          case hqt14 => exact fun _ _ _ h => h
          case hyt14 => ((intro w hSw; (try dsimp only at hSw); go_simp) <;> (with_reducible rfl))
          (try simp only [Act.put, List.setIfInBounds_toArray, List.set_cons_zero, List.set_cons_succ])
          refine wpAnyT_ready (rs := [20]) (by kernel_rfl) (by simp) ?_
          refine (AllReadyT.last (by (simp only [List.getElem?_toArray, List.getElem?_cons_zero, List.getElem?_cons_succ]) <;> rfl) (by kernel_rfl) (fun K hK => ?_) AllReadyT.nil)
          go_simp
          refine hK.out _ _ ?_
          (try clear hK K)
          (try simp only [Act.put, List.setIfInBounds_toArray, List.set_cons_zero, List.set_cons_succ])
          refine wpAnyT_done (by kernel_rfl) ?_ _
          (try clear hHeld)
          go_wp2
          go_ret
          exact ⟨rfl, ⟨_, _, k3.out⟩, k4.out⟩
        · rw [if_pos (by rfl)]
          refine wp_build0 33 3 1 rfl Try.underlying33 Try.sizeOf3 ?_
          intro W9 hB9 hb9
          have st := hide (St.a9 st.out hB9 hb9)
          refine hK.out _ _ (by first | exact hk2.out w2 hb2.out _ st.out.bl | exact hk2.out w2 hb2.out _ md.out.bl | exact hk2.out w2 hb2.out _ hb16.out | exact hk2.out w2 hb2.out _ hb17.out) (fun hHeld => ?_)
          (try clear hK K)
          (try simp only [Act.put, List.setIfInBounds_toArray, List.set_cons_zero, List.set_cons_succ])
          refine wpAnyT_ready (rs := [6]) (by kernel_rfl) (by simp) ?_
          refine (AllReadyT.cons (by (simp only [List.getElem?_toArray, List.getElem?_cons_zero, List.getElem?_cons_succ]) <;> rfl) (fun K hK => ?_) AllReadyT.nil)
          rw [if_pos (by rfl)]
          refine wp_append_ex (.tmp 65) (.tmp 69) 29 rfl (.slice (some ⟨_, 0, none⟩) 0 0) (.slice AF n cF) rfl rfl _ (St.p6 st.out AF cF (R ++ Z) f1.out fl.out fo.out (by omega) hcF.out) ?_
          rintro v1 W6 st
          replace st := hide st
          refine hK.out _ _ (by first | exact hk2.out w2 hb2.out _ st.out.bl | exact hk2.out w2 hb2.out _ md.out.bl | exact hk2.out w2 hb2.out _ hb16.out | exact hk2.out w2 hb2.out _ hb17.out) (fun hHeld => ?_)
          (try clear hK K)
          (try simp only [Act.put, List.setIfInBounds_toArray, List.set_cons_zero, List.set_cons_succ])
          refine wpAnyT_ready (rs := [12]) (by kernel_rfl) (by simp) ?_
          refine (AllReadyT.cons (by (simp only [List.getElem?_toArray, List.getElem?_cons_zero, List.getElem?_cons_succ]) <;> rfl) (fun K hK => ?_) AllReadyT.nil)
          rw [if_pos (by rfl)]
          refine wp_append_ex (.tmp 73) (.tmp 75) 33 rfl (.slice (some ⟨_, 0, none⟩) 0 0) (.slice B m d) rfl rfl _ (by have q := St.p12 (ar := ar) st.out B d [] hI2.out (by have := hm.out; omega) hd.out; rw [← hm.out] at q; exact q) ?_
          rintro u12 W12 ⟨A2, c2, rfl, md⟩
          replace md := hide md
          refine hK.out _ _ (by first | exact hk2.out w2 hb2.out _ st.out.bl | exact hk2.out w2 hb2.out _ md.out.bl | exact hk2.out w2 hb2.out _ hb16.out | exact hk2.out w2 hb2.out _ hb17.out) (fun hHeld => ?_)
          (try clear hK K)
          (try simp only [Act.put, List.setIfInBounds_toArray, List.set_cons_zero, List.set_cons_succ])
          refine wpAnyT_take 12 (i := 15) (v := ?vvt15) (by (simp only [List.getElem?_toArray, List.getElem?_cons_zero, List.getElem?_cons_succ]) <;> rfl) (by kernel_rfl) (by kernel_rfl) (by kernel_rfl) (by kernel_rfl) (by kernel_rfl) (by rfl) ?hqt15 (Or.inl ⟨by rfl, ?hyt15⟩) (by assumption) ?_
          case hqt15 => exact fun _ _ _ h => h
          case hyt15 => ((intro w hSw; (try dsimp only at hSw); go_simp) <;> (with_reducible rfl))
          (try simp only [Act.put, List.setIfInBounds_toArray, List.set_cons_zero, List.set_cons_succ])
          refine wpAnyT_ready (rs := [16]) (by kernel_rfl) (by simp) ?_
          refine (AllReadyT.cons (by (simp only [List.getElem?_toArray, List.getElem?_cons_zero, List.getElem?_cons_succ]) <;> rfl) (fun K hK => ?_) AllReadyT.nil)
          rw [if_pos (by rfl)]
          refine wp_buildF 79 nf A2 m c2 rs rfl rfl ?_
          intro W16 hB16 hb16'
          have hb16 := hide (md.out.bl.trans (hb16'.mono md.out.bl.size))
          rw [hm.out] at hB16
          replace hB16 := hide hB16
          replace hb16' := hide hb16'
          refine hK.out _ _ (by first | exact hk2.out w2 hb2.out _ st.out.bl | exact hk2.out w2 hb2.out _ md.out.bl | exact hk2.out w2 hb2.out _ hb16.out | exact hk2.out w2 hb2.out _ hb17.out) (fun hHeld => ?_)
          (try clear hK K)
          (try simp only [Act.put, List.setIfInBounds_toArray, List.set_cons_zero, List.set_cons_succ])
          refine wpAnyT_ready (rs := [17]) (by kernel_rfl) (by simp) ?_
          refine (AllReadyT.cons (by (simp only [List.getElem?_toArray, List.getElem?_cons_zero, List.getElem?_cons_succ]) <;> rfl) (fun K hK => ?_) AllReadyT.nil)
          rw [if_pos (by rfl)]
          refine wp_append_ex (.tmp 70) (.tmp 80) 29 rfl v1 (.slice (some ⟨_, 0, none⟩) 1 1) rfl rfl _ (Mid.p17 md.out hB16.out hb16'.out (by omega)) ?_
          rintro u17 W17 ⟨g, c3, rfl, hg17, hb17, hrow17, hI17⟩
          obtain ⟨k1, k2, k3, k4⟩ := hfin2.out g c3 A2 c2 W17 hg17 hb17 hrow17 hI17
          replace hb17 := hide hb17; replace k3 := hide k3; replace k4 := hide k4; clear hrow17 hI17
          refine hK.out _ _ (by first | exact hk2.out w2 hb2.out _ st.out.bl | exact hk2.out w2 hb2.out _ md.out.bl | exact hk2.out w2 hb2.out _ hb16.out | exact hk2.out w2 hb2.out _ hb17.out) (fun hHeld => ?_)
          (try clear hK K)
          (try simp only [Act.put, List.setIfInBounds_toArray, List.set_cons_zero, List.set_cons_succ])
          refine wpAnyT_take 12 (i := 18) (v := ?vvt16) (by (simp only [List.getElem?_toArray, List.getElem?_cons_zero, List.getElem?_cons_succ]) <;> rfl) (by kernel_rfl) (by kernel_rfl) (by kernel_rfl) (by kernel_rfl) (by kernel_rfl) (by rfl) ?hqt16 (Or.inl ⟨by rfl, ?hyt16⟩) (by assumption) ?_
          case hqt16 => exact fun _ _ _ h => h
          case hyt16 => ((intro w hSw; (try dsimp only at hSw); go_simp) <;> (with_reducible rfl))
          (try simp only [Act.put, List.setIfInBounds_toArray, List.set_cons_zero, List.set_cons_succ])
          refine wpAnyT_take 12 (i := 19) (v := ?vvt17) (by (simp only [List.getElem?_toArray, List.getElem?_cons_zero, List.getElem?_cons_succ]) <;> rfl) (by kernel_rfl) (by kernel_rfl) (by kernel_rfl) (by kernel_rfl) (by kernel_rfl) (by rfl) ?hqt17 (Or.inl ⟨by rfl, ?hyt17⟩) (by assumption) ?_
          case hqt17 => exact fun _ _ _ h => h
          case hyt17 => ((intro w hSw; (try dsimp only at hSw); go_simp) <;> (with_reducible rfl))
          (try simp only [Act.put, List.setIfInBounds_toArray, List.set_cons_zero, List.set_cons_succ])
          refine wpAnyT_ready (rs := [20]) (by kernel_rfl) (by simp) ?_
          refine (AllReadyT.last (by (simp only [List.getElem?_toArray, List.getElem?_cons_zero, List.getElem?_cons_succ]) <;> rfl) (by kernel_rfl) (fun K hK => ?_) AllReadyT.nil)
          go_simp
          refine hK.out _ _ ?_
          (try clear hK K)
          (try simp only [Act.put, List.setIfInBounds_toArray, List.set_cons_zero, List.set_cons_succ])
          refine wpAnyT_done (by kernel_rfl) ?_ _
          (try clear hHeld)
          go_wp2
          go_ret
          exact ⟨rfl, ⟨_, _, k3.out⟩, k4.out⟩
      · rw [if_pos (by rfl)]
        refine wp_build0 33 3 1 rfl Try.underlying33 Try.sizeOf3 ?_
        intro W9 hB9 hb9
        have st := hide (St.a9 st.out hB9 hb9)
        refine hK.out _ _ (by first | exact hk2.out w2 hb2.out _ st.out.bl | exact hk2.out w2 hb2.out _ md.out.bl | exact hk2.out w2 hb2.out _ hb16.out | exact hk2.out w2 hb2.out _ hb17.out) (fun hHeld => ?_)
        (try clear hK K)
        (try simp only [Act.put, List.setIfInBounds_toArray, List.set_cons_zero, List.set_cons_succ])
        refine wpAnyT_ready (rs := [1]) (by kernel_rfl) (by simp) ?_
        refine (AllReadyT.cons (by (simp only [List.getElem?_toArray, List.getElem?_cons_zero, List.getElem?_cons_succ]) <;> rfl) (fun K hK => ?_) AllReadyT.nil)
        rw [if_pos (by rfl)]
        refine wp_build0 29 35 3 rfl Try.underlying29 Try.sizeOf35 ?_
        intro W1 hB1 hb1
        have st := hide (St.a1 st.out hB1 hb1)
        refine hK.out _ _ (by first | exact hk2.out w2 hb2.out _ st.out.bl | exact hk2.out w2 hb2.out _ md.out.bl | exact hk2.out w2 hb2.out _ hb16.out | exact hk2.out w2 hb2.out _ hb17.out) (fun hHeld => ?_)
        (try clear hK K)
        (try simp only [Act.put, List.setIfInBounds_toArray, List.set_cons_zero, List.set_cons_succ])
        refine wpAnyT_ready (rs := [6]) (by kernel_rfl) (by simp) ?_
        refine (AllReadyT.cons (by (simp only [List.getElem?_toArray, List.getElem?_cons_zero, List.getElem?_cons_succ]) <;> rfl) (fun K hK => ?_) AllReadyT.nil)
        rw [if_pos (by rfl)]
        refine wp_append_ex (.tmp 65) (.tmp 69) 29 rfl (.slice (some ⟨_, 0, none⟩) 0 0) (.slice AF n cF) rfl rfl _ (St.p6 st.out AF cF (R ++ Z) f1.out fl.out fo.out (by omega) hcF.out) ?_
        rintro v1 W6 st
        replace st := hide st
        refine hK.out _ _ (by first | exact hk2.out w2 hb2.out _ st.out.bl | exact hk2.out w2 hb2.out _ md.out.bl | exact hk2.out w2 hb2.out _ hb16.out | exact hk2.out w2 hb2.out _ hb17.out) (fun hHeld => ?_)
        (try clear hK K)
        (try simp only [Act.put, List.setIfInBounds_toArray, List.set_cons_zero, List.set_cons_succ])
        refine wpAnyT_ready (rs := [12]) (by kernel_rfl) (by simp) ?_
        refine (AllReadyT.cons (by (simp only [List.getElem?_toArray, List.getElem?_cons_zero, List.getElem?_cons_succ]) <;> rfl) (fun K hK => ?_) AllReadyT.nil)
        rw [if_pos (by rfl)]
        refine wp_append_ex (.tmp 73) (.tmp 75) 33 rfl (.slice (some ⟨_, 0, none⟩) 0 0) (.slice B m d) rfl rfl _ (by have q := St.p12 (ar := ar) st.out B d [] hI2.out (by have := hm.out; omega) hd.out; rw [← hm.out] at q; exact q) ?_
        rintro u12 W12 ⟨A2, c2, rfl, md⟩
        replace md := hide md
        refine hK.out _ _ (by first | exact hk2.out w2 hb2.out _ st.out.bl | exact hk2.out w2 hb2.out _ md.out.bl | exact hk2.out w2 hb2.out _ hb16.out | exact hk2.out w2 hb2.out _ hb17.out) (fun hHeld => ?_)
        (try clear hK K)
        (try simp only [Act.put, List.setIfInBounds_toArray, List.set_cons_zero, List.set_cons_succ])
        refine wpAnyT_take 12 (i := 15) (v := ?vvt18) (by (simp only [List.getElem?_toArray, List.getElem?_cons_zero, List.getElem?_cons_succ]) <;> rfl) (by kernel_rfl) (by kernel_rfl) (by kernel_rfl) (by kernel_rfl) (by kernel_rfl) (by rfl) ?hqt18 (Or.inl ⟨by rfl, ?hyt18⟩) (by assumption) ?_
        case hqt18 => exact fun _ _ _ h => h
        case hyt18 => ((intro w hSw; (try dsimp only at hSw); go_simp) <;> (with_reducible rfl))
        (try simp only [Act.put, List.setIfInBounds_toArray, List.set_cons_zero, List.set_cons_succ])
        refine wpAnyT_ready (rs := [16]) (by kernel_rfl) (by simp) ?_
        refine (AllReadyT.cons (by (simp only [List.getElem?_toArray, List.getElem?_cons_zero, List.getElem?_cons_succ]) <;> rfl) (fun K hK => ?_) AllReadyT.nil)
        rw [if_pos (by rfl)]
        refine wp_buildF 79 nf A2 m c2 rs rfl rfl ?_
        intro W16 hB16 hb16'
        have hb16 := hide (md.out.bl.trans (hb16'.mono md.out.bl.size))
        rw [hm.out] at hB16
        replace hB16 := hide hB16
        replace hb16' := hide hb16'
        refine hK.out _ _ (by first | exact hk2.out w2 hb2.out _ st.out.bl | exact hk2.out w2 hb2.out _ md.out.bl | exact hk2.out w2 hb2.out _ hb16.out | exact hk2.out w2 hb2.out _ hb17.out) (fun hHeld => ?_)
        (try clear hK K)
        (try simp only [Act.put, List.setIfInBounds_toArray, List.set_cons_zero, List.set_cons_succ])
        refine wpAnyT_ready (rs := [17]) (by kernel_rfl) (by simp) ?_
        refine (AllReadyT.cons (by (simp only [List.getElem?_toArray, List.getElem?_cons_zero, List.getElem?_cons_succ]) <;> rfl) (fun K hK => ?_) AllReadyT.nil)
        rw [if_pos (by rfl)]
        refine wp_append_ex (.tmp 70) (.tmp 80) 29 rfl v1 (.slice (some ⟨_, 0, none⟩) 1 1) rfl rfl _ (Mid.p17 md.out hB16.out hb16'.out (by omega)) ?_
        rintro u17 W17 ⟨g, c3, rfl, hg17, hb17, hrow17, hI17⟩
        obtain ⟨k1, k2, k3, k4⟩ := hfin2.out g c3 A2 c2 W17 hg17 hb17 hrow17 hI17
        replace hb17 := hide hb17; replace k3 := hide k3; replace k4 := hide k4; clear hrow17 hI17
        refine hK.out _ _ (by first | exact hk2.out w2 hb2.out _ st.out.bl | exact hk2.out w2 hb2.out _ md.out.bl | exact hk2.out w2 hb2.out _ hb16.out | exact hk2.out w2 hb2.out _ hb17.out) (fun hHeld => ?_)
        (try clear hK K)
        (try simp only [Act.put, List.setIfInBounds_toArray, List.set_cons_zero, List.set_cons_succ])
        refine wpAnyT_take 12 (i := 18) (v := ?vvt19) (by (simp only [List.getElem?_toArray, List.getElem?_cons_zero, List.getElem?_cons_succ]) <;> rfl) (by kernel_rfl) (by kernel_rfl) (by kernel_rfl) (by kernel_rfl) (by kernel_rfl) (by rfl) ?hqt19 (Or.inl ⟨by rfl, ?hyt19⟩) (by assumption) ?_
        case hqt19 => exact fun _ _ _ h => h
        case hyt19 => ((intro w hSw; (try dsimp only at hSw); go_simp) <;> (with_reducible rfl))
        (try simp only [Act.put, List.setIfInBounds_toArray, List.set_cons_zero, List.set_cons_succ])
        refine wpAnyT_take 12 (i := 19) (v := ?vvt20) (by (simp only [List.getElem?_toArray, List.getElem?_cons_zero, List.getElem?_cons_succ]) <;> rfl) (by kernel_rfl) (by kernel_rfl) (by kernel_rfl) (by kernel_rfl) (by kernel_rfl) (by rfl) ?hqt20 (Or.inl ⟨by rfl, ?hyt20⟩) (by assumption) ?_
        case hqt20 => exact fun _ _ _ h => h
        case hyt20 => ((intro w hSw; (try dsimp only at hSw); go_simp) <;> (with_reducible rfl))
        (try simp only [Act.put, List.setIfInBounds_toArray, List.set_cons_zero, List.set_cons_succ])
        refine wpAnyT_ready (rs := [20]) (by kernel_rfl) (by simp) ?_
        refine (AllReadyT.last (by (simp only [List.getElem?_toArray, List.getElem?_cons_zero, List.getElem?_cons_succ]) <;> rfl) (by kernel_rfl) (fun K hK => ?_) AllReadyT.nil)
        go_simp
        refine hK.out _ _ ?_
        (try clear hK K)
        (try simp only [Act.put, List.setIfInBounds_toArray, List.set_cons_zero, List.set_cons_succ])
        refine wpAnyT_done (by kernel_rfl) ?_ _
        (try clear hHeld)
        go_wp2
        go_ret
        exact ⟨rfl, ⟨_, _, k3.out⟩, k4.out⟩
end
end Nt
end Go.Proofs.Ytlcgdiciiibeeaa
