/-
  Each act by both: they tell the same, and stay side by side.
-/
import Derived.Test.YtlcgdiciiibeeaaRi
namespace Go.Proofs.Ytlcgdiciiibeeaa
open Go.ChangeShapes Go.RowKit
namespace Nt
set_option maxRecDepth 100000
set_option linter.unusedSimpArgs false
set_option linter.unusedVariables false
section
variable {X : List Nat} {B : Nat} {w0 w w' : World} {p r g N lv k : Nat} {so fu : List (ByteArray × Nat)} {ty : List Fn} {T T' R : List Nat} {L : List (Nat × Nat)} {cs : Array Value}
def Jj (B : Nat) (w0 : World) (p r g : Nat) (cs : Array Value) (k : Nat) (w : World) : Prop := ∃ lv so fu ty L T R, Jn B w0 w p r g cs k lv so fu ty (so.map Prod.fst) ty L T R ∧ Jk k lv so fu ty L
theorem Jj.next (h : Jj B w0 p r g cs k w) (hb : Below w.heap.size w w') : Jj B w0 p r g cs k w' := by
  obtain ⟨lv, so, fu, ty, L, T, R, h1, h2⟩ := h
  exact ⟨lv, so, fu, ty, L, T, R, h1.next hb, h2⟩
theorem Jj.up (h : Jj B w0 p r g cs k w) {k' : Nat} (hk : k ≤ k') : Jj B w0 p r g cs k' w := by
  obtain ⟨lv, so, fu, ty, L, T, R, h1, h2⟩ := h
  exact ⟨lv, so, fu, ty, L, T, R, ⟨h1.tb.mono hk, h1.rf, h1.tB, h1.rB, h1.sz, h1.bl, h1.bk, h1.gR⟩, ⟨h2.hl, h2.ok, Nat.le_trans h2.ks hk, Nat.le_trans h2.kf hk, Nat.le_trans h2.kl hk, h2.nd⟩⟩
theorem Jj.below (h : Jj B w0 p r g cs k w) : Below B w0 w := by
  obtain ⟨lv, so, fu, ty, L, T, R, h1, h2⟩ := h
  exact h1.bl
theorem Jj.bk (h : Jj B w0 p r g cs k w) : Bk g cs 37 w := by
  obtain ⟨lv, so, fu, ty, L, T, R, h1, h2⟩ := h
  exact h1.bk
theorem Jj.size (h : Jj B w0 p r g cs k w) : B ≤ w.heap.size := by
  obtain ⟨lv, so, fu, ty, L, T, R, h1, h2⟩ := h
  exact h1.sz
theorem Jn.rp {so' : List ByteArray} {ty' : List Fn} (h : Jn B w0 w p r g cs k lv so fu ty so' ty' L T R) : ∃ AN cN AF cF vL, RfP T w r R so' ty' L AN cN AF cF vL := h.rf

theorem j_sort (hJ : Jj B w0 p r g cs k w) (hk : k < 1000) (s : ByteArray) (hs : s.size ≤ 300) :
    ∃ (x e : Int) (M : World → Prop), Calls Try.prog 10 #[.pointer (some ⟨p, 0, none⟩), .string s] w (fun E w' => E = .returned (.tuple #[.int .i64 x, .int .i64 e]) ∧ M w') ∧
      ∀ w', M w' → Bk g cs 37 w' ∧ Calls Try.prog 11 #[.pointer (some ⟨r, 0, none⟩), .string s] w' (fun E w'' => E = .returned (.tuple #[.int .i64 x, .int .i64 e]) ∧ Jj B w0 p r g cs (k + 1) w'') := by
  obtain ⟨lv, so, fu, ty, L, T, R, h1, h2⟩ := hJ
  have hs1 : s.size ≤ maxLen := by unfold maxLen; omega
  have ks := h2.ks
  by_cases hf : freeB so s = true
  · refine ⟨_, _, fun w' => ∃ T', Jn B w0 w' p r g cs (k + 1) lv (so ++ [(s, lv)]) fu ty (so.map Prod.fst) ty L T' R, (sort_yes p T k lv so fu ty s w h1.tb hf hs1 (by omega)).mono fun E w' ⟨he, T', k1, k2, k3⟩ => ⟨he, T', h1.code k1 k2 k3⟩, fun w' ⟨T', hM⟩ => ⟨hM.bk, ?_⟩⟩
    obtain ⟨AN, cN, AF, cF, vL, hr⟩ := hM.rp
    refine (ref_sort hr hM.tb.lt (by omega) s (by omega) hf).mono fun E w'' ⟨he, ⟨AN', cN', q1⟩, q2⟩ => ⟨he, lv, so ++ [(s, lv)], fu, ty, L, T', R, ?_, ?_⟩
    · have := hM.ref (R' := R) ⟨AN', cN', AF, cF, vL, q1⟩ q2 (fun b hb => .inl hb)
      rwa [show (so ++ [(s, lv)]).map Prod.fst = so.map Prod.fst ++ [s] by simp]
    · have := h2.ok.sort s
      rw [h2.hl] at this
      exact ⟨h2.hl, this, by simp; omega, Nat.le_trans h2.kf (by omega), Nat.le_trans h2.kl (by omega), h2.nd⟩
  · have hf' : freeB so s = false := by simpa using hf
    refine ⟨_, _, fun w' => w = w', sort_no p T k lv so fu ty s w h1.tb hf' hs1, fun w' e => ?_⟩
    subst e
    obtain ⟨AN, cN, AF, cF, vL, hr⟩ := h1.rp
    refine ⟨h1.bk, (ref_sort_no hr (by omega) s (by omega) hf').mono fun E w'' ⟨he, hb⟩ => ⟨he, Jj.up (Jj.next ⟨lv, so, fu, ty, L, T, R, h1, h2⟩ hb) (by omega)⟩⟩

theorem has_found {fu : List (ByteArray × Nat)} {ty : List Fn} (h : fu.map Prod.fst = ty.map Fn.nm) (s : ByteArray) : hasB fu s = foundB ty s := by
  have e1 : hasB fu s = (fu.map Prod.fst).any (fun x => x.data.toList == s.data.toList) := by unfold hasB; rw [List.any_map]; rfl
  have e2 : foundB ty s = (ty.map Fn.nm).any (fun x => x.data.toList == s.data.toList) := by unfold foundB; rw [List.any_map]; rfl
  rw [e1, e2, h]
theorem same_len {fu : List (ByteArray × Nat)} {ty : List Fn} (h : fu.map Prod.fst = ty.map Fn.nm) : fu.length = ty.length := by simpa using congrArg List.length h

theorem j_fun (hJ : Jj B w0 p r g cs k w) (hk : k < 900) (nf : ByteArray) (A : Option Addr) (ar : List Int) (d : Nat) (rs : Int) (hI : Ib B w0 A ar) (hd : A = none → d = 0) (hs : nf.size ≤ 300) (hal : ar.length ≤ 70) :
    ∃ (e : Int) (M : World → Prop), Calls Try.prog 12 #[.pointer (some ⟨p, 0, none⟩), .agg #[.string nf, .slice A ar.length d, .int .i64 rs]] w (fun E w' => E = .returned (.int .i64 e) ∧ M w') ∧
      ∀ w', M w' → Bk g cs 37 w' ∧ Calls Try.prog 13 #[.pointer (some ⟨r, 0, none⟩), .agg #[.string nf, .slice A ar.length d, .int .i64 rs]] w' (fun E w'' => E = .returned (.int .i64 e) ∧ Jj B w0 p r g cs (k + 1) w'') := by
  obtain ⟨lv, so, fu, ty, L, T, R, h1, h2⟩ := hJ
  have hs1 : nf.size ≤ maxLen := by unfold maxLen; omega
  have ks := h2.ks
  have kf := h2.kf
  have hnames := h1.tb.2
  have hlen := same_len hnames
  have hhas := has_found hnames nf
  by_cases hf : freeB fu nf = true ∧ typedB so.length ar rs = true
  · obtain ⟨hf, ht⟩ := hf
    have hnb : nameB nf = true ∧ foundB ty nf = false := by
      simp only [freeB, Bool.and_eq_true, Bool.not_eq_true'] at hf
      exact ⟨hf.1, by rw [← hhas]; exact hf.2⟩
    have hno := found_none hnb.2
    refine ⟨_, fun w' => ∃ T', Jn B w0 w' p r g cs (k + 1) lv so (fu ++ [(nf, lv)]) (ty ++ [⟨nf, ar, rs⟩]) (so.map Prod.fst) ty L T' R, (fun_yes p T k lv so fu ty nf A ar d rs w h1.tb (hI.ir h1.bl h1.sz h1.tB) hf ht hs1 (by omega) (by omega)).mono fun E w' ⟨he, T', k1, k2, k3⟩ => ⟨he, T', h1.code k1 k2 k3⟩, fun w' ⟨T', hM⟩ => ⟨hM.bk, ?_⟩⟩
    obtain ⟨AN, cN, AF, cF, vL, hr⟩ := hM.rp
    refine (ref_fun hr hM.tb.lt (by simp; omega) (by omega) nf A ar d rs (hI.ir hM.bl hM.sz (by simp)) hd (by omega) hnb.1 hno (by rw [List.length_map]; exact ht)).mono fun E w'' ⟨he, ⟨AF', cF', q1⟩, q2⟩ => ⟨he, lv, so, fu ++ [(nf, lv)], ty ++ [⟨nf, ar, rs⟩], L, T', R, ?_, ?_⟩
    · exact hM.ref (R' := R) ⟨AN, cN, AF', cF', vL, q1⟩ q2 (fun b hb => .inl hb)
    · have := h2.ok.fn nf
      rw [h2.hl] at this
      refine ⟨h2.hl, this, Nat.le_trans h2.ks (by omega), by simp; omega, Nat.le_trans h2.kl (by omega), ?_⟩
      rw [List.map_append, List.nodup_append]
      refine ⟨h2.nd, by simp, fun a ha b hb e => ?_⟩
      simp at hb
      subst hb
      subst e
      rw [List.mem_map] at ha
      obtain ⟨f, hf, e⟩ := ha
      obtain ⟨j, hj, rfl⟩ := List.getElem_of_mem hf
      exact hno j hj e
  · refine ⟨1, fun w' => Below w.heap.size w w', ?_, fun w' hb => ⟨h1.bk.next hb, ?_⟩⟩
    · cases hc : freeB fu nf
      · exact fun_no1 p T k lv so fu ty nf A ar d rs w h1.tb (hI.ir h1.bl h1.sz h1.tB) hc hs1 (by omega) (by omega)
      · have hc2 : typedB so.length ar rs = false := by
          cases hq : typedB so.length ar rs
          · rfl
          · exact absurd ⟨hc, hq⟩ hf
        exact fun_no2 p T k lv so fu ty nf A ar d rs w h1.tb (hI.ir h1.bl h1.sz h1.tB) hc hc2 hs1 (by omega) (by omega)
    · have hM := h1.next hb
      obtain ⟨AN, cN, AF, cF, vL, hr⟩ := hM.rp
      have hfin : ∀ E w'', (E = Ending.returned (.int .i64 1) ∧ Below w'.heap.size w' w'') → E = Ending.returned (.int .i64 1) ∧ Jj B w0 p r g cs (k + 1) w'' := fun E w'' ⟨he, hb2⟩ => ⟨he, Jj.up (Jj.next ⟨lv, so, fu, ty, L, T, R, hM, h2⟩ hb2) (by omega)⟩
      by_cases hc : foundB ty nf = true ∨ nameB nf = false
      · exact (ref_fun_no1 hr (by simp; omega) (by omega) nf A ar d rs (by omega) hc).mono hfin
      · have hc1 : foundB ty nf = false := by cases hq : foundB ty nf with
          | false => rfl
          | true => exact absurd (.inl hq) hc
        have hc2 : nameB nf = true := by cases hq : nameB nf with
          | true => rfl
          | false => exact absurd (.inr hq) hc
        have hfr : freeB fu nf = true := by simp [freeB, hhas, hc1, hc2]
        have hty : typedB so.length ar rs = false := by
          cases hq : typedB so.length ar rs
          · rfl
          · exact absurd ⟨hfr, hq⟩ hf
        exact (ref_fun_no2 hr (by simp; omega) (by omega) nf A ar d rs (hI.ir hM.bl hM.sz (by simp)) (by omega) hc2 hc1 (by rw [List.length_map]; exact hty) (by omega)).mono hfin

theorem j_push (hJ : Jj B w0 p r g cs k w) (hk : k < 900) :
    ∃ (M : World → Prop), Calls Try.prog 14 #[.pointer (some ⟨p, 0, none⟩)] w (fun E w' => E = .returned (.tuple #[]) ∧ M w') ∧
      ∀ w', M w' → Bk g cs 37 w' ∧ Calls Try.prog 15 #[.pointer (some ⟨r, 0, none⟩)] w' (fun E w'' => E = .returned (.tuple #[]) ∧ Jj B w0 p r g cs (k + 1) w'') := by
  obtain ⟨lv, so, fu, ty, L, T, R, h1, h2⟩ := hJ
  have kl := h2.kl
  have hlen := same_len h1.tb.2
  refine ⟨fun w' => Jn B w0 w' p r g cs k (lv + 1) so fu ty (so.map Prod.fst) ty L T R, (push_level p T k lv so fu ty w h1.tb (by omega)).mono fun E w' ⟨he, k1, k2⟩ => ⟨he, h1.code k1 k2 (fun b hb => .inl hb)⟩, fun w' hM => ⟨hM.bk, ?_⟩⟩
  obtain ⟨AN, cN, AF, cF, vL, hr⟩ := hM.rp
  refine (ref_push hr hM.tb.lt (by have := h2.hl; omega)).mono fun E w'' ⟨he, ⟨R', vL', q1, q2⟩, q3⟩ => ⟨he, Jj.up (k := k + 1) ⟨lv + 1, so, fu, ty, L ++ [(so.length, fu.length)], T, R', ?_, ?_⟩ (Nat.le_refl _)⟩
  · have e : L ++ [((so.map Prod.fst).length, ty.length)] = L ++ [(so.length, fu.length)] := by rw [List.length_map, hlen]
    rw [e] at q1
    have := hM.ref (R' := R') ⟨AN, cN, AF, cF, vL', q1⟩ q3 q2
    exact ⟨this.tb.mono (by omega), this.rf, this.tB, this.rB, this.sz, this.bl, this.bk, this.gR⟩
  · exact ⟨by have := h2.hl; simp; omega, h2.ok.push, Nat.le_trans h2.ks (by omega), Nat.le_trans h2.kf (by omega), by omega, h2.nd⟩

theorem j_pop (hJ : Jj B w0 p r g cs k w) (hk : k < 900) (x : Int) :
    ∃ (e : Int) (M : World → Prop), Calls Try.prog 16 #[.pointer (some ⟨p, 0, none⟩), .int .i64 x] w (fun E w' => E = .returned (.int .i64 e) ∧ M w') ∧
      ∀ w', M w' → Bk g cs 37 w' ∧ Calls Try.prog 17 #[.pointer (some ⟨r, 0, none⟩), .int .i64 x] w' (fun E w'' => E = .returned (.int .i64 e) ∧ Jj B w0 p r g cs (k + 1) w'') := by
  have hJ0 := hJ
  obtain ⟨lv, so, fu, ty, L, T, R, h1, h2⟩ := hJ
  have kl := h2.kl
  have hl := h2.hl
  obtain ⟨AN, cN, AF, cF, vL, hr⟩ := h1.rp
  obtain ⟨n1, n2, n3⟩ := ref_pop_no hr x
  have hfin : ∀ (y : Int) E w'', (E = Ending.returned (.int .i64 y) ∧ w = w'') → E = Ending.returned (.int .i64 y) ∧ Jj B w0 p r g cs (k + 1) w'' := fun y E w'' ⟨he, hw⟩ => ⟨he, by rw [← hw]; exact hJ0.up (by omega)⟩
  by_cases hx : x < 0
  · exact ⟨1, fun w' => w = w', pop_neg _ x hx w, fun w' e => by subst e; exact ⟨h1.bk, (n1 hx).mono (hfin 1)⟩⟩
  obtain ⟨n, rfl⟩ : ∃ n : Nat, x = (n : Int) := ⟨x.toNat, by omega⟩
  by_cases hn : lv < n
  · exact ⟨5, fun w' => w = w', pop_many p T k lv so fu ty w h1.tb n hn, fun w' e => by subst e; exact ⟨h1.bk, (n2 (by omega)).mono (hfin 5)⟩⟩
  by_cases h0 : n = 0
  · subst h0
    exact ⟨0, fun w' => w = w', pop_zero p T k lv so fu ty w h1.tb, fun w' e => by subst e; exact ⟨h1.bk, (n3 rfl).mono (hfin 0)⟩⟩
  obtain ⟨l, hln⟩ : ∃ l, l + n = lv := ⟨lv - n, by omega⟩
  have hlL : l < L.length := by omega
  obtain ⟨q1, q2, q3⟩ := h2.ok.pop hlL
  obtain ⟨b1, b2, _, _⟩ := h2.ok.at_ l hlL
  have hlen := same_len h1.tb.2
  have e2 : (keepL l fu).length = L[l].2 := by rw [q2, List.length_take]; omega
  have e1 : (keepL l so).map Prod.fst = (so.map Prod.fst).take L[l].1 := by rw [q1, List.map_take]
  refine ⟨0, fun w' => Jn B w0 w' p r g cs k l (keepL l so) (keepL l fu) (ty.take (keepL l fu).length) (so.map Prod.fst) ty L T R, (pop_yes p T k lv n l so fu ty w h1.tb (by omega) (by omega) hln (by omega)).mono fun E w' ⟨he, k1, k2⟩ => ⟨he, h1.code k1 k2 (fun b hb => .inl hb)⟩, fun w' hM => ⟨hM.bk, ?_⟩⟩
  obtain ⟨AN, cN, AF, cF, vL, hr⟩ := hM.rp
  refine (ref_pop hr (by omega) n l (by omega) (by omega) hlL (by rw [List.length_map]; exact b1) (by omega)).mono fun E w'' ⟨he, ⟨vL', z1⟩, z2⟩ => ⟨he, Jj.up (k := k) ⟨l, keepL l so, keepL l fu, ty.take (keepL l fu).length, L.take l, T, R, ?_, ?_⟩ (by omega)⟩
  · rw [← e1, ← e2] at z1
    exact hM.ref (R' := R) ⟨AN, cN, AF, cF, vL', z1⟩ z2 (fun b hb => .inl hb)
  · refine ⟨by rw [List.length_take]; omega, q3, ?_, ?_, by omega, ?_⟩
    · have := h2.ks; rw [q1, List.length_take]; omega
    · have := h2.kf; rw [List.length_take]; omega
    · rw [List.map_take]; exact List.Nodup.sublist (List.take_sublist _ _) h2.nd

theorem j_find (hJ : Jj B w0 p r g cs k w) (hk : k < 900) (s : ByteArray) (hs : s.size ≤ 300) :
    ∃ (nx : ByteArray) (ar : List Int) (rs : Int) (ok : Bool), ar.length ≤ 64 ∧ Calls Try.prog 18 #[.pointer (some ⟨p, 0, none⟩), .string s] w (fun E w' => ∃ A c, E = .returned (.tuple #[.agg #[.string nx, .slice A ar.length c, .int .i64 rs], .bool ok]) ∧ Ir [] w' A ar ∧ Below w.heap.size w w') ∧
      ∀ w', Below w.heap.size w w' → Calls Try.prog 19 #[.pointer (some ⟨r, 0, none⟩), .string s] w' (fun E w'' => ∃ A c, E = .returned (.tuple #[.agg #[.string nx, .slice A ar.length c, .int .i64 rs], .bool ok]) ∧ Ir [] w'' A ar ∧ Below w'.heap.size w' w'') := by
  obtain ⟨lv, so, fu, ty, L, T, R, h1, h2⟩ := hJ
  have kf := h2.kf
  have hs1 : s.size ≤ maxLen := by unfold maxLen; omega
  have hnames := h1.tb.2
  have hlen := same_len hnames
  have hhas := has_found hnames s
  rcases hfb : foundB ty s with _ | _
  · refine ⟨⟨#[]⟩, [], 0, false, by simp, (find_no p T k lv so fu ty s w h1.tb hs1 (by rw [hhas]; exact hfb)).mono fun E w' ⟨he, hb⟩ => ⟨none, 0, he, .inl rfl, hb⟩, fun w' hb => ?_⟩
    obtain ⟨AN, cN, AF, cF, vL, hr⟩ := (h1.next hb).rp
    exact (ref_find_no hr (by omega) s (found_none hfb)).mono fun E w' ⟨he, hb⟩ => ⟨none, 0, he, .inl rfl, hb⟩
  · obtain ⟨i, hi, he, hno⟩ := found_first hfb
    have hif : i < fu.length := by omega
    have hx : fu[i].1 = ty[i].nm := by
      have e1 : (fu.map Prod.fst)[i]? = (ty.map Fn.nm)[i]? := by rw [hnames]
      rw [List.getElem?_map, List.getElem?_map, List.getElem?_eq_getElem hif, List.getElem?_eq_getElem hi] at e1
      simpa using e1
    have h64 : ty[i].ar.length ≤ 64 := by
      obtain ⟨⟨v1, m1, v2, m2, v3, hp⟩, _⟩ := h1.tb
      obtain ⟨xs, _, hF⟩ := hp.tS
      obtain ⟨_, _, _, _, _, _, q⟩ := Fs.get hF i hi
      exact q
    refine ⟨ty[i].nm, ty[i].ar, ty[i].rs, true, h64, (find_yes p T k lv so fu ty s w h1.tb hs1 (by omega) i hif hi (by rw [hx]; exact he)).mono fun E w' ⟨A, c, he, hI, hb⟩ => ⟨A, c, he, hI [] (by simp), hb⟩, fun w' hb => ?_⟩
    obtain ⟨AN, cN, AF, cF, vL, hr⟩ := (h1.next hb).rp
    exact (ref_find_yes hr (by omega) s i hi he hno).mono fun E w'' ⟨A, c, he, hI, hb⟩ => ⟨A, c, he, hI.off (Off.refl [] w'') (by simp) (by simp), hb⟩

theorem j_fsort (hJ : Jj B w0 p r g cs k w) (hk : k < 900) (s : ByteArray) (hs : s.size ≤ 300) :
    ∃ (x : Int) (ok : Bool), Calls Try.prog 21 #[.pointer (some ⟨p, 0, none⟩), .string s] w (fun E w' => E = .returned (.tuple #[.int .i64 x, .bool ok]) ∧ w = w') ∧
      ∀ w', Below w.heap.size w w' → Calls Try.prog 22 #[.pointer (some ⟨r, 0, none⟩), .string s] w' (fun E w'' => E = .returned (.tuple #[.int .i64 x, .bool ok]) ∧ w' = w'') := by
  obtain ⟨lv, so, fu, ty, L, T, R, h1, h2⟩ := hJ
  have ks := h2.ks
  have hs1 : s.size ≤ maxLen := by unfold maxLen; omega
  refine ⟨_, _, fsort_any p T k lv so fu ty s w h1.tb hs1 (by omega), fun w' hb => ?_⟩
  obtain ⟨AN, cN, AF, cF, vL, hr⟩ := (h1.next hb).rp
  exact ref_fsort hr (by omega) s
end
end Nt
end Go.Proofs.Ytlcgdiciiibeeaa
