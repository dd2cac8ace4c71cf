
/-
  The law LinearRings.
-/
import Derived.Test.YtgimmmmpollkhaaGreatYt

import Derived.Test.YtgimmmmpollkhaaGreatZa

namespace Go.Proofs.YtgimmmmpollkhaaGreat

open Go.ChangeShapes Go.RowKit

namespace Nt
set_option maxRecDepth 100000
set_option linter.unusedSimpArgs false
set_option linter.unusedVariables false

theorem few_of {p : Pt} (h : Limbs p.xs ∧ Limbs p.ys) (f : p.few8 = true) : p.Few := by
  have := of_decide_eq_true f
  exact ⟨h.1, h.2, by omega, by omega⟩
theorem bnd_of {p : Pt} (h : p.Ok) (f : p.few8 = true) : bnd 8 p.q := by
  have := of_decide_eq_true f
  rw [h.x, h.y] at this
  exact ⟨lt_of_ln this.1, lt_of_ln this.2⟩
theorem small_of {l : List Pt} (h : ∀ p ∈ l, p.Ok) (f : ∀ p ∈ l, p.few8 = true) : small 8 (l.map Pt.qt) := by
  intro x hx
  obtain ⟨p, hp, rfl⟩ := List.mem_map.1 hx
  exact bnd_of (h p hp) (f p hp)
def PR0 (w : World) (q : Rat) (e : Ending) (w' : World) : Prop := ∃ (A : Option Addr) (k : Nat) (c : Pt), e = .returned (.tuple #[.agg #[.slice A 0 k, .bool c.s, .slice c.A c.xs.length c.a, .slice c.B c.ys.length c.b], .int .i64 0]) ∧ c.q = q ∧ c.At w' ∧ c.Ok ∧ Below w.heap.size w w'
theorem PR.nil {w w' : World} {q : Rat} {e : Ending} (h : PR w [] q e w') : PR0 w q e w' := by
  obtain ⟨A, k, l, c, rfl, m, hq, _, ha, _, hk, hb, _⟩ := h
  have : l = [] := by simpa using m
  subst this
  exact ⟨A, k, c, rfl, hq, ha, hk, hb⟩
theorem bnd_m1 : bnd 1 (-1 : Rat) := ⟨by decide +kernel, by decide +kernel⟩
theorem ring_facts {L M : List (Rat × Int)} {q r K : Rat} (hL : small 8 L) (hM : small 8 M) (hq : bnd 8 q) (hr : bnd 8 r) (hK : bnd 8 K) (vL : rvB (-1) L) (vM : rvB (-1) M) (nL : L.length ≤ 10) (nM : M.length ≤ 10) :
    mfB L M = true ∧ mfB M L = true ∧ fitB (q + r) = true ∧ fitB (r + q) = true ∧ (∀ x ∈ mrg L M, fitB (x.1 * K) = true) ∧ fitB ((q + r) * K) = true ∧ (∀ x ∈ L, fitB (x.1 * K) = true) ∧ fitB (q * K) = true ∧ (∀ x ∈ M, fitB (x.1 * K) = true) ∧ fitB (r * K) = true ∧ mfB (scq' K L) (scq' K M) = true ∧ fitB (q * K + r * K) = true ∧ (∀ x ∈ L, fitB (x.1 * -1) = true) ∧ fitB (q * -1) = true ∧ rvB (-1) (mrg L M) ∧ (mrg L M).length ≤ 20 :=
  ⟨mfB_small 8 8 (by decide) _ L M (Nat.le_refl _) hL hM, mfB_small 8 8 (by decide) _ M L (Nat.le_refl _) hM hL, fitB_bnd (bnd_add hq hr) (by decide), fitB_bnd (bnd_add hr hq) (by decide), fun x hx => fitB_bnd (bnd_mul (mrg_small 8 _ L M (Nat.le_refl _) hL hM x hx) hK) (by decide), fitB_bnd (bnd_mul (bnd_add hq hr) hK) (by decide), fun x hx => fitB_bnd (bnd_mul (hL x hx) hK) (by decide), fitB_bnd (bnd_mul hq hK) (by decide), fun x hx => fitB_bnd (bnd_mul (hM x hx) hK) (by decide), fitB_bnd (bnd_mul hr hK) (by decide), mfB_small 16 16 (by decide) _ _ _ (Nat.le_refl _) (scq'_small hL hK) (scq'_small hM hK), fitB_bnd (bnd_add (bnd_mul hq hK) (bnd_mul hr hK)) (by decide), fun x hx => fitB_bnd (bnd_mul (hL x hx) bnd_m1) (by decide), fitB_bnd (bnd_mul hq bnd_m1) (by decide), rvB_mrg _ (-1) L M (Nat.le_refl _) vL vM, by have := mrg_len _ L M (Nat.le_refl _); omega⟩
theorem pb_neg {L : List (Rat × Int)} {q : Rat} {g : Nat} {A : Option Addr} {n k : Nat} {l : List Pt} {c kk : Pt} {W : World} (h : Pb L q g A n k l c W) (hk : kk.Ok) (ak : kk.At W) (hq : kk.q = -1) (hv : rvB (-1) L) (hl : L.length ≤ 1000) (hf : ∀ x ∈ L, fitB (x.1 * -1) = true) (hf' : fitB (q * -1) = true) :
    Calls Tryz.prog 14 #[.agg #[.slice A n k, .bool c.s, .slice c.A c.xs.length c.a, .slice c.B c.ys.length c.b], .agg #[.bool kk.s, .slice kk.A kk.xs.length kk.a, .slice kk.B kk.ys.length kk.b]] W (PR W (scq (-1) L) (q * -1)) := by
  have := pb_scale h hk ak hv hl (by rw [hq]; exact hf) (by rw [hq]; exact hf')
  rw [hq] at this
  unfold scq' at this
  rw [if_neg (by decide)] at this
  exact this
theorem pb_zero {L : List (Rat × Int)} {q : Rat} {g g' : Nat} {A B : Option Addr} {n n' k k' : Nat} {l m : List Pt} {c d : Pt} {W : World} (h : Pb L q g A n k l c W) (h' : Pb (scq (-1) L) (q * -1) g' B n' k' m d W) (hv : rvB (-1) L) (hl : L.length ≤ 1000) :
    Calls Tryz.prog 12 #[.agg #[.slice A n k, .bool c.s, .slice c.A c.xs.length c.a, .slice c.B c.ys.length c.b], .agg #[.slice B n' k', .bool d.s, .slice d.A d.xs.length d.a, .slice d.B d.ys.length d.b]] W (PR0 W 0) := by
  have e : q + q * -1 = 0 := by rw [Rat.mul_neg, Rat.mul_one, Rat.add_neg_cancel]
  have := pb_add h h' hv (rvB_scq (by decide) hv) hl (by unfold scq; rw [List.length_map]; exact hl) (mfB_neg L) (by rw [e]; exact fitB_t.2 fit0)
  rw [e, mrg_neg] at this
  exact this.mono fun e w' h => h.nil
/-- A sum without parts, in a box. -/
structure Rz (q : Rat) (g : Nat) (A : Option Addr) (k : Nat) (c : Pt) (W : World) : Prop where
  hq : c.q = q
  ck : c.Ok
  at_ : c.At W
  x : C4 g (.slice A 0 k) (.bool c.s) (.slice c.A c.xs.length c.a) (.slice c.B c.ys.length c.b) W
theorem Rz.next {q : Rat} {g : Nat} {A : Option Addr} {k : Nat} {c : Pt} {W W' : World} (h : Rz q g A k c W) (hb : Below W.heap.size W W') : Rz q g A k c W' := ⟨h.hq, h.ck, h.at_.next hb, h.x.next hb⟩
theorem rz_new {q : Rat} {c : Pt} {W : World} (k : Nat) (A : Option Addr) (hq : c.q = q) (hk : c.Ok) (ha : c.At W) : Rz q W.heap.size A k c (W.alloc (.cells #[.slice A 0 k, .bool c.s, .slice c.A c.xs.length c.a, .slice c.B c.ys.length c.b] 27)) :=
  ⟨hq, hk, ha.next (bl_al (.refl _ _) _), C4.of (Bk.new _ _ W)⟩
theorem rz_sign {g : Nat} {A : Option Addr} {k : Nat} {c : Pt} {W : World} (h : Rz 0 g A k c W) : Calls Tryz.prog 32 #[.agg #[.bool c.s, .slice c.A c.xs.length c.a, .slice c.B c.ys.length c.b]] W fun e w' => e = .returned (.int .i64 0) ∧ Below W.heap.size W w' := by
  have := rsign_p h.ck W h.at_
  unfold rv at this
  rw [h.hq] at this
  exact this
def W0 (w : World) (c d kk : Pt) (A B : Option Addr) (n kc m kd : Nat) : World := ((w.alloc (.cells #[.slice A n kc, .bool c.s, .slice c.A c.xs.length c.a, .slice c.B c.ys.length c.b] 27)).alloc (.cells #[.slice B m kd, .bool d.s, .slice d.A d.xs.length d.a, .slice d.B d.ys.length d.b] 27)).alloc (.cells #[.bool kk.s, .slice kk.A kk.xs.length kk.a, .slice kk.B kk.ys.length kk.b] 25)
/-- The boxes of two sums and a number. -/
def B3 (w : World) (c d kk : Pt) (A B : Option Addr) (n kc m kd : Nat) (W : World) : Prop := C4 w.heap.size (.slice A n kc) (.bool c.s) (.slice c.A c.xs.length c.a) (.slice c.B c.ys.length c.b) W ∧ C4 (w.heap.size + 1) (.slice B m kd) (.bool d.s) (.slice d.A d.xs.length d.a) (.slice d.B d.ys.length d.b) W ∧ C3 (w.heap.size + 1 + 1) (.bool kk.s) (.slice kk.A kk.xs.length kk.a) (.slice kk.B kk.ys.length kk.b) W
theorem B3.start (w : World) (c d kk : Pt) (A B : Option Addr) (n kc m kd : Nat) : B3 w c d kk A B n kc m kd (W0 w c d kk A B n kc m kd) ∧ Below w.heap.size w (W0 w c d kk A B n kc m kd) := by
  have h1 : Bk w.heap.size #[.slice A n kc, .bool c.s, .slice c.A c.xs.length c.a, .slice c.B c.ys.length c.b] 27 (W0 w c d kk A B n kc m kd) := ((Bk.new _ _ w).al _).al _
  have h2 : Bk (w.heap.size + 1) #[.slice B m kd, .bool d.s, .slice d.A d.xs.length d.a, .slice d.B d.ys.length d.b] 27 (W0 w c d kk A B n kc m kd) := (Bk.new1 _ _ w _).al _
  have h3 : Bk (w.heap.size + 1 + 1) #[.bool kk.s, .slice kk.A kk.xs.length kk.a, .slice kk.B kk.ys.length kk.b] 25 (W0 w c d kk A B n kc m kd) := by
    have := Bk.new1 #[.bool kk.s, .slice kk.A kk.xs.length kk.a, .slice kk.B kk.ys.length kk.b] 25 (w.alloc (.cells #[.slice A n kc, .bool c.s, .slice c.A c.xs.length c.a, .slice c.B c.ys.length c.b] 27)) (.cells #[.slice B m kd, .bool d.s, .slice d.A d.xs.length d.a, .slice d.B d.ys.length d.b] 27)
    simpa [W0] using this
  exact ⟨⟨C4.of h1, C4.of h2, C3.of h3⟩, bl_al (bl_al (bl_al (.refl _ _) _) _) _⟩
theorem B3.next {w : World} {c d kk : Pt} {A B : Option Addr} {n kc m kd : Nat} {W W' : World} (h : B3 w c d kk A B n kc m kd W) (hb : Below W.heap.size W W') : B3 w c d kk A B n kc m kd W' := ⟨h.1.next hb, h.2.1.next hb, h.2.2.next hb⟩

set_option maxHeartbeats 16000000 in
theorem rings_law (A B : Option Addr) (l m : List Pt) (kc kd : Nat) (c d kk : Pt) (w : World) (hl : Pl w A l) (hm : Pl w B m) (hc : c.At w) (hd : d.At w) (hk : kk.At w) (ll : ∀ p ∈ l, Limbs p.xs ∧ Limbs p.ys) (lm : ∀ p ∈ m, Limbs p.xs ∧ Limbs p.ys) (lc : Limbs c.xs ∧ Limbs c.ys) (ld : Limbs d.xs ∧ Limbs d.ys) (lkk : Limbs kk.xs ∧ Limbs kk.ys) (nl : l.length ≤ kc) (nk : kc ≤ maxLen) (ml : m.length ≤ kd) (mk : kd ≤ maxLen) :
    Calls Tryz.prog 4 #[polyV A l.length kc c, polyV B m.length kd d, rv kk] w fun e w' => e = .returned (.bool true) ∧ Below w.heap.size w w' := by
  have AW := hide (fun W => awake8_any W)
  have ON := hide (fun W => rof_p (-1) 1 (-1) W (by decide) (by decide) (by decide) (by decide) (by decide) (by first | rfl | decide +kernel) fit_m1)
  have hmx : maxLen ≤ 9223372036854775807 := by unfold maxLen; decide
  have P1 := hide (fun W (b : Below w.heap.size w W) => pfew_any A l kc c W (hl.next b) (by omega))
  have P2 := hide (fun W (b : Below w.heap.size w W) => pfew_any B m kd d W (hm.next b) (by omega))
  obtain ⟨r3, hr3⟩ : ∃ r, kk.few8 = r := ⟨_, rfl⟩
  have P3 := hide (fun W => fewR_any kk.s kk.A kk.B kk.xs.length kk.ys.length kk.a kk.b W r3 hr3)
  obtain ⟨v1, hv1⟩ : ∃ v, (pvB (-1) l && c.ok) = v := ⟨_, rfl⟩
  obtain ⟨v2, hv2⟩ : ∃ v, (pvB (-1) m && d.ok) = v := ⟨_, rfl⟩
  obtain ⟨v3, hv3⟩ : ∃ v, kk.ok = v := ⟨_, rfl⟩
  have V1 := hide (fun (h : l.length ≤ 10 ∧ (∀ p ∈ l, p.few8 = true) ∧ c.few8 = true) W (b : Below w.heap.size w W) => rvalidP_any A l kc c W (hl.next b) (hc.next b) (fun p hp => few_of (ll p hp) (h.2.1 p hp)) (few_of lc h.2.2) (by omega) v1 hv1)
  have V2 := hide (fun (h : m.length ≤ 10 ∧ (∀ p ∈ m, p.few8 = true) ∧ d.few8 = true) W (b : Below w.heap.size w W) => rvalidP_any B m kd d W (hm.next b) (hd.next b) (fun p hp => few_of (lm p hp) (h.2.1 p hp)) (few_of ld h.2.2) (by omega) v2 hv2)
  have V3 := hide (fun (h : r3 = true) W (b : Below w.heap.size w W) => rvalidQ_any kk.s kk.A kk.B kk.a kk.b kk.xs kk.ys W (hk.next b).1 (hk.next b).2 lkk.1 lkk.2 (by have := few_of lkk (hr3.trans h); exact this.mx) (by have := few_of lkk (hr3.trans h); exact this.my) v3 hv3)
  have st := B3.start w c d kk A B l.length kc m.length kd
  obtain ⟨bb, B3_⟩ : Hid (Below w.heap.size w (W0 w c d kk A B l.length kc m.length kd)) ∧ Hid (B3 w c d kk A B l.length kc m.length kd (W0 w c d kk A B l.length kc m.length kd)) := ⟨hide st.2, hide st.1⟩
  clear st
  have PPl := hide (fun W (b : Below w.heap.size w W) => hl.next b)
  have PPm := hide (fun W (b : Below w.heap.size w W) => hm.next b)
  have PAc := hide (fun W (b : Below w.heap.size w W) => And.intro (hc.next b) (And.intro (hd.next b) (hk.next b)))
  replace ll := hide ll; replace lm := hide lm; replace lc := hide lc; replace ld := hide ld; replace lkk := hide lkk
  replace hr3 := hide hr3; replace hv1 := hide hv1; replace hv2 := hide hv2; replace hv3 := hide hv3
  replace nl := hide nl; replace ml := hide ml
  clear hl hm hc hd hk
  obtain ⟨n, hn⟩ : ∃ n, n = l.length := ⟨_, rfl⟩
  obtain ⟨m', hm'⟩ : ∃ n, n = m.length := ⟨_, rfl⟩
  unfold polyV rv at *
  unfold W0 at bb B3_
  rw [← hn] at P1 V1 bb B3_ nl ⊢
  rw [← hm'] at P2 V2 bb B3_ ml ⊢
  replace hn := hide hn; replace hm' := hide hm'
  obtain ⟨⟨x0, x1, x2, x3⟩, ⟨y0, y1, y2, y3⟩, ⟨z0, z1, z2⟩⟩ := B3_.out
  go_enter Tryz.func4, Tryz.ntmps4
  go_upto_region 3 with (first
    | (go_at_call 8; (with_reducible refine (P1.out _ bb.out).mono ?_); rintro e w1 ⟨r1, rfl, hb, h1⟩; replace bb := hide (bl_trans bb.out hb); replace B3_ := hide (B3_.out.next hb); clear hb x0 x1 x2 x3 y0 y1 y2 y3 z0 z1 z2; obtain ⟨⟨x0, x1, x2, x3⟩, ⟨y0, y1, y2, y3⟩, ⟨z0, z1, z2⟩⟩ := B3_.out; cases r1 <;> replace h1 := hide h1)
    | (go_at_call 8; (with_reducible refine (P2.out _ bb.out).mono ?_); rintro e w1 ⟨r2, rfl, hb, h2⟩; replace bb := hide (bl_trans bb.out hb); replace B3_ := hide (B3_.out.next hb); clear hb x0 x1 x2 x3 y0 y1 y2 y3 z0 z1 z2; obtain ⟨⟨x0, x1, x2, x3⟩, ⟨y0, y1, y2, y3⟩, ⟨z0, z1, z2⟩⟩ := B3_.out; cases r2 <;> replace h2 := hide h2)
    | (go_at_call 9; (with_reducible refine (P3.out _).mono ?_); rintro e w1 ⟨rfl, hb⟩; replace bb := hide (bl_trans bb.out hb); replace B3_ := hide (B3_.out.next hb); clear hb x0 x1 x2 x3 y0 y1 y2 y3 z0 z1 z2; obtain ⟨⟨x0, x1, x2, x3⟩, ⟨y0, y1, y2, y3⟩, ⟨z0, z1, z2⟩⟩ := B3_.out; cases r3)
    | (go_at_call 26; (with_reducible refine (V1.out (h1.out (by first | rfl | trivial)) _ bb.out).mono ?_); rintro e w1 ⟨rfl, hb⟩; replace bb := hide (bl_trans bb.out hb); replace B3_ := hide (B3_.out.next hb); clear hb x0 x1 x2 x3 y0 y1 y2 y3 z0 z1 z2; obtain ⟨⟨x0, x1, x2, x3⟩, ⟨y0, y1, y2, y3⟩, ⟨z0, z1, z2⟩⟩ := B3_.out; cases v1)
    | (go_at_call 26; (with_reducible refine (V2.out (h2.out (by first | rfl | trivial)) _ bb.out).mono ?_); rintro e w1 ⟨rfl, hb⟩; replace bb := hide (bl_trans bb.out hb); replace B3_ := hide (B3_.out.next hb); clear hb x0 x1 x2 x3 y0 y1 y2 y3 z0 z1 z2; obtain ⟨⟨x0, x1, x2, x3⟩, ⟨y0, y1, y2, y3⟩, ⟨z0, z1, z2⟩⟩ := B3_.out; cases v2)
    | (go_at_call 30; (with_reducible refine (V3.out (by first | rfl | trivial) _ bb.out).mono ?_); rintro e w1 ⟨rfl, hb⟩; replace bb := hide (bl_trans bb.out hb); replace B3_ := hide (B3_.out.next hb); clear hb x0 x1 x2 x3 y0 y1 y2 y3 z0 z1 z2; obtain ⟨⟨x0, x1, x2, x3⟩, ⟨y0, y1, y2, y3⟩, ⟨z0, z1, z2⟩⟩ := B3_.out; cases v3)
    | (go_at_call 11; (with_reducible refine (AW.out _).mono ?_); rintro e w1 ⟨rfl, hb⟩; replace bb := hide (bl_trans bb.out hb); clear hb)
    | fail)
  · go_ret
    exact ⟨rfl, bb.out⟩
  · go_ret
    exact ⟨rfl, bb.out⟩
  · go_ret
    exact ⟨rfl, bb.out⟩
  · go_ret
    exact ⟨rfl, bb.out⟩
  · go_ret
    exact ⟨rfl, bb.out⟩
  · go_ret
    exact ⟨rfl, bb.out⟩
  have H1 := h1.out (by first | rfl | trivial)
  have H2 := h2.out (by first | rfl | trivial)
  have hv1' := hv1.out
  have hv2' := hv2.out
  rw [Bool.and_eq_true] at hv1' hv2'
  have okl := pvB_ok hv1'.1 (fun p hp => few_of (ll.out p hp) (H1.2.1 p hp))
  have okm := pvB_ok hv2'.1 (fun p hp => few_of (lm.out p hp) (H2.2.1 p hp))
  have okc := ok_of (few_of lc.out H1.2.2) hv1'.2
  have okd := ok_of (few_of ld.out H2.2.2) hv2'.2
  have okk := ok_of (few_of lkk.out hr3.out) hv3.out
  have vL := (pvB_rvB okl (-1)).1 hv1'.1
  have vM := (pvB_rvB okm (-1)).1 hv2'.1
  have sL := small_of okl H1.2.1
  have sM := small_of okm H2.2.1
  have bq := bnd_of okc H1.2.2
  have br := bnd_of okd H2.2.2
  have bk := bnd_of okk hr3.out
  have HP : Hid (Pb (l.map Pt.qt) c.q w.heap.size A n kc l c w1) := ⟨hn.out, rfl, rfl, PPl.out _ bb.out, (PAc.out _ bb.out).1, okl, okc, by rw [← hn.out]; exact nl.out, nk, B3_.out.1⟩
  have HQ : Hid (Pb (m.map Pt.qt) d.q (w.heap.size + 1) B m' kd m d w1) := ⟨hm'.out, rfl, rfl, PPm.out _ bb.out, (PAc.out _ bb.out).2.1, okm, okd, by rw [← hm'.out]; exact ml.out, mk, B3_.out.2.1⟩
  have HK : Hid (Rb kk.q (w.heap.size + 1 + 1) kk w1) := ⟨rfl, okk, (PAc.out _ bb.out).2.2, B3_.out.2.2⟩
  have nL : (l.map Pt.qt).length ≤ 10 := by rw [List.length_map, ← hn.out]; exact H1.1
  have nM : (m.map Pt.qt).length ≤ 10 := by rw [List.length_map, ← hm'.out]; exact H2.1
  clear H1 H2 hv1' hv2' okl okm okc okd P1 P2 P3 V1 V2 V3 PPl PPm PAc ll lm lc ld lkk hr3 hv1 hv2 hv3 h1 h2 nl ml nk mk hn hm' B3_
  generalize l.map Pt.qt = L at *
  generalize m.map Pt.qt = M at *
  generalize c.q = q0 at *
  generalize d.q = r0 at *
  have RF := hide (ring_facts sL sM bq br bk vL vM nL nM)
  have vL' := hide vL
  have vM' := hide vM
  have lL : Hid (L.length ≤ 1000) := show _ ≤ _ by omega
  have lM : Hid (M.length ≤ 1000) := show _ ≤ _ by omega
  have okk' := hide okk
  clear vL vM sL sM bq br bk nL nM okk
  go_upto_region 9 with (first
    | (go_at_call 12; (with_reducible refine (pb_add HP.out HQ.out vL'.out vM'.out lL.out lM.out RF.out.1 RF.out.2.2.1).mono ?_); rintro e ws ⟨As, ks, ls, cs, rfl, ms, vs, ps, ts, os, zs, hb, ws, ys⟩; unfold polyV; have HS := hide (pb_new (k := ks) ms vs ps ts os zs ws ys); have g := bl_al hb (.cells #[.slice As ls.length ks, .bool cs.s, .slice cs.A cs.xs.length cs.a, .slice cs.B cs.ys.length cs.b] 27); replace HP := hide (HP.out.next g); replace HQ := hide (HQ.out.next g); replace HK := hide (HK.out.next g); replace bb := hide (bl_trans bb.out g); clear x0 x1 x2 x3 y0 y1 y2 y3 z0 z1 z2; obtain ⟨x0, x1, x2, x3⟩ := HP.out.x; obtain ⟨y0, y1, y2, y3⟩ := HQ.out.x; clear ms vs ps ts os zs ws ys; clear hb g)
    | (go_at_call 12; (with_reducible refine (pb_add HQ.out HP.out vM'.out vL'.out lM.out lL.out RF.out.2.1 RF.out.2.2.2.1).mono ?_); rintro e wt ⟨At, kt, lt, ct, rfl, mt, vt, pt, tt, ot, zt, hb, wt, yt⟩; unfold polyV; have HT := hide (pb_new (k := kt) mt vt pt tt ot zt wt yt); have g := bl_al hb (.cells #[.slice At lt.length kt, .bool ct.s, .slice ct.A ct.xs.length ct.a, .slice ct.B ct.ys.length ct.b] 27); replace HP := hide (HP.out.next g); replace HQ := hide (HQ.out.next g); replace HK := hide (HK.out.next g); replace HS := hide (HS.out.next g); replace bb := hide (bl_trans bb.out g); clear x0 x1 x2 x3 y0 y1 y2 y3; obtain ⟨x0, x1, x2, x3⟩ := HS.out.x; obtain ⟨z0, z1, z2⟩ := HK.out.x; clear mt vt pt tt ot zt wt yt; clear hb g)
    | (go_at_call 14; (with_reducible refine (pb_scale HS.out okk'.out HK.out.at_ RF.out.2.2.2.2.2.2.2.2.2.2.2.2.2.2.1 (by have := RF.out.2.2.2.2.2.2.2.2.2.2.2.2.2.2.2; omega) RF.out.2.2.2.2.1 RF.out.2.2.2.2.2.1).mono ?_); rintro e wm ⟨Am, km, lm, cm, rfl, mm, vm, pm, tm, om, zm, hb, wm, ym⟩; unfold polyV; have HM := hide (pb_new (k := km) mm vm pm tm om zm wm ym); have g := bl_al hb (.cells #[.slice Am lm.length km, .bool cm.s, .slice cm.A cm.xs.length cm.a, .slice cm.B cm.ys.length cm.b] 27); replace HP := hide (HP.out.next g); replace HQ := hide (HQ.out.next g); replace HK := hide (HK.out.next g); replace HS := hide (HS.out.next g); replace HT := hide (HT.out.next g); replace bb := hide (bl_trans bb.out g); clear x0 x1 x2 x3 z0 z1 z2; obtain ⟨x0, x1, x2, x3⟩ := HP.out.x; obtain ⟨z0, z1, z2⟩ := HK.out.x; clear mm vm pm tm om zm wm ym; clear hb g)
    | (go_at_call 14; (with_reducible refine (pb_scale HP.out okk'.out HK.out.at_ vL'.out lL.out RF.out.2.2.2.2.2.2.1 RF.out.2.2.2.2.2.2.2.1).mono ?_); rintro e wa ⟨Aa, ka, la, ca, rfl, ma, va, pa, ta, oa, za, hb, wa, ya⟩; unfold polyV; have HA := hide (pb_new (k := ka) ma va pa ta oa za wa ya); have g := bl_al hb (.cells #[.slice Aa la.length ka, .bool ca.s, .slice ca.A ca.xs.length ca.a, .slice ca.B ca.ys.length ca.b] 27); replace HP := hide (HP.out.next g); replace HQ := hide (HQ.out.next g); replace HK := hide (HK.out.next g); replace HS := hide (HS.out.next g); replace HT := hide (HT.out.next g); replace HM := hide (HM.out.next g); replace bb := hide (bl_trans bb.out g); clear x0 x1 x2 x3 z0 z1 z2; obtain ⟨x0, x1, x2, x3⟩ := HQ.out.x; obtain ⟨z0, z1, z2⟩ := HK.out.x; clear ma va pa ta oa za wa ya; clear hb g)
    | (go_at_call 14; (with_reducible refine (pb_scale HQ.out okk'.out HK.out.at_ vM'.out lM.out RF.out.2.2.2.2.2.2.2.2.1 RF.out.2.2.2.2.2.2.2.2.2.1).mono ?_); rintro e wb ⟨Ab, kb, lb, cb, rfl, mb, vb, pb, tb, ob, zb, hb, wb, yb⟩; unfold polyV; have HB := hide (pb_new (k := kb) mb vb pb tb ob zb wb yb); have g := bl_al hb (.cells #[.slice Ab lb.length kb, .bool cb.s, .slice cb.A cb.xs.length cb.a, .slice cb.B cb.ys.length cb.b] 27); replace HP := hide (HP.out.next g); replace HQ := hide (HQ.out.next g); replace HK := hide (HK.out.next g); replace HS := hide (HS.out.next g); replace HT := hide (HT.out.next g); replace HM := hide (HM.out.next g); replace HA := hide (HA.out.next g); replace bb := hide (bl_trans bb.out g); clear x0 x1 x2 x3 z0 z1 z2; obtain ⟨x0, x1, x2, x3⟩ := HA.out.x; obtain ⟨y0, y1, y2, y3⟩ := HB.out.x; clear mb vb pb tb ob zb wb yb; clear hb g)
    | (go_at_call 12; (with_reducible refine (pb_add HA.out HB.out (rvB_scq' _ vL'.out) (rvB_scq' _ vM'.out) (Nat.le_trans (scq'_len _ _) lL.out) (Nat.le_trans (scq'_len _ _) lM.out) RF.out.2.2.2.2.2.2.2.2.2.2.1 RF.out.2.2.2.2.2.2.2.2.2.2.2.1).mono ?_); rintro e wu ⟨Au, ku, lu, cu, rfl, mu, vu, pu, tu, ou, zu, hb, wu, yu⟩; unfold polyV; have HC := hide (pb_new (k := ku) mu vu pu tu ou zu wu yu); have g := bl_al hb (.cells #[.slice Au lu.length ku, .bool cu.s, .slice cu.A cu.xs.length cu.a, .slice cu.B cu.ys.length cu.b] 27); replace HP := hide (HP.out.next g); replace HQ := hide (HQ.out.next g); replace HK := hide (HK.out.next g); replace HS := hide (HS.out.next g); replace HT := hide (HT.out.next g); replace HM := hide (HM.out.next g); replace HA := hide (HA.out.next g); replace HB := hide (HB.out.next g); replace bb := hide (bl_trans bb.out g); clear x0 x1 x2 x3 y0 y1 y2 y3; obtain ⟨x0, x1, x2, x3⟩ := HP.out.x; clear mu vu pu tu ou zu wu yu; clear hb g)
    | fail)
  generalize ws.heap.size = gs at *
  generalize wt.heap.size = gt at *
  generalize wm.heap.size = gm at *
  generalize wu.heap.size = gc at *
  generalize wu.alloc (.cells #[.slice Au lu.length ku, .bool cu.s, .slice cu.A cu.xs.length cu.a, .slice cu.B cu.ys.length cu.b] 27) = w9 at *
  clear HA HB HK okk' x0 x1 x2 x3
  have S9 := hide (fun W (b : Below w9.heap.size w9 W) => (show W.cell? ⟨w.heap.size, 0, none⟩ = some (.slice A n kc) ∧ W.cell? ⟨w.heap.size, 1, none⟩ = some (.bool c.s) ∧ W.cell? ⟨w.heap.size, 2, none⟩ = some (.slice c.A c.xs.length c.a) ∧ W.cell? ⟨w.heap.size, 3, none⟩ = some (.slice c.B c.ys.length c.b) from (HP.out.next b).x))
  go_cut [19, 20] (fun sa sb wx => ∃ (gs : Nat) (A : Option Addr) (k : Nat) (l : List Pt) (c : Pt), sa = .pointer (some ⟨gs, 0, none⟩) ∧ sb = .int .i64 0 ∧ Pb (scq (-1) L) (q0 * -1) gs A l.length k l c wx ∧ Below w9.heap.size w9 wx)
  case first =>
    go_region_held3 (fun W => W.cell? ⟨w.heap.size, 0, none⟩ = some (.slice A n kc) ∧ W.cell? ⟨w.heap.size, 1, none⟩ = some (.bool c.s) ∧ W.cell? ⟨w.heap.size, 2, none⟩ = some (.slice c.A c.xs.length c.a) ∧ W.cell? ⟨w.heap.size, 3, none⟩ = some (.slice c.B c.ys.length c.b))
        (first
          | (with_reducible exact S9.out _ (ka0 w9))
          | (with_reducible exact S9.out _ (ka1 w9 _))
          | (with_reducible exact S9.out _ bc)
          | (with_reducible exact S9.out _ (bl_al bc _))
          | (with_reducible exact S9.out _ (bl_al (bl_al bc _) _))
          | (with_reducible exact S9.out _ bd)
          | (with_reducible exact S9.out _ (bl_al bd _))
          | (with_reducible exact S9.out _ (bl_al (bl_al bd _) _))
          | (with_reducible exact S9.out _ be)
          | (with_reducible exact S9.out _ (bl_al be _))
          | (with_reducible exact S9.out _ (be.trans ((off4 _ _ _ _ _ _).below be.size (fun b hb => by simp at hb; omega))))
          | (with_reducible exact S9.out _ (bd.trans ((off4 _ _ _ _ _ _).below bd.size (fun b hb => by simp at hb; omega))))
          | fail)
        (first
          | (go_at_call 31; (with_reducible refine (ON.out _).mono ?_); rintro e wa ⟨R, rfl, Rq, Rk, Ra, hb⟩; have bc : Below w9.heap.size w9 wa := (by first | (with_reducible exact bl_trans (ka0 w9) hb) | (with_reducible exact bl_trans (ka1 w9 _) hb)); have n1 := bc.size; have hCon := hide (fun W (b : Below wa.heap.size wa W) => pb_neg (HP.out.next (bl_trans bc b)) Rk (Ra.next b) Rq vL'.out lL.out RF.out.2.2.2.2.2.2.2.2.2.2.2.2.1 RF.out.2.2.2.2.2.2.2.2.2.2.2.2.2.1); (first | (have hZ : Hid (Bk w9.heap.size #[.slice none 0 0, .bool false, .slice none 0 0, .slice none 0 0] 27 wa) := by with_reducible exact hide (zd hb)) | skip))
          | (go_at_call 14; (with_reducible refine (hCon.out _ ?hw).mono ?_); (case hw => first | (with_reducible exact .refl _ _) | (with_reducible exact bl_al (.refl _ _) _) | fail); rintro e wd ⟨An_, kn_, ln_, cn_, rfl, mn_, vn_, pn_, tn_, on_, zn_, hb, wn_, yn_⟩; unfold polyV; have g2 : Below wa.heap.size wa wd := (by first | (with_reducible exact hb) | (with_reducible exact bl_one hb)); have be := bl_trans bc g2; have n3 := be.size; (first | (have hZ3 := hide (hZ.out.next g2)) | (have hZ3 : Hid (Bk wa.heap.size #[.slice none 0 0, .bool false, .slice none 0 0, .slice none 0 0] 27 wd) := by with_reducible exact hide (z1 hb)) | skip); (first | (have v0 := hZ3.out.cell (j := 0) rfl; have v1 := hZ3.out.cell (j := 1) rfl; have v2 := hZ3.out.cell (j := 2) rfl; have v3 := hZ3.out.cell (j := 3) rfl; have u0 := hZ3.out.free 0; have u1 := hZ3.out.free 1; have u2 := hZ3.out.free 2; have u3 := hZ3.out.free 3) | skip))
          | fail)
    all_goals
      go_wp2_with fail
      go_meet
      first
        | with_reducible refine ⟨wd.heap.size, An_, kn_, ln_, cn_, rfl, rfl, ?_⟩
          exact ⟨pb_new (k := kn_) mn_ vn_ pn_ tn_ on_ zn_ wn_ yn_, bl_al be _⟩
        | with_reducible refine ⟨_, An_, kn_, ln_, cn_, rfl, rfl, ?_⟩
          exact ⟨pb_set hZ3.out (k := kn_) mn_ vn_ pn_ tn_ on_ zn_ wn_ yn_, be.trans ((off4 _ _ _ _ _ _).below be.size (fun b hb => by simp at hb; omega))⟩
        | fail
  case rest =>
    obtain ⟨gn, An, kn, ln_, cn, rfl, rfl, HN, b9⟩ := hcut
    replace HN := hide HN
    have HP := hide (HP.out.next b9)
    have HS := hide (HS.out.next b9)
    have HT := hide (HT.out.next b9)
    have HM := hide (HM.out.next b9)
    have HC := hide (HC.out.next b9)
    have bb := hide (bl_trans bb.out b9)
    clear S9 b9
    obtain ⟨x0, x1, x2, x3⟩ := HP.out.x
    obtain ⟨y0, y1, y2, y3⟩ := HN.out.x
    go_wp2_with (first
      | (go_at_call 12; (with_reducible refine (pb_zero HP.out HN.out vL'.out lL.out).mono ?_); rintro e wz ⟨Az, kz, cz, rfl, vz, tz, zz, hb⟩; have HZ := hide (rz_new kz Az vz zz tz); have g := bl_al hb (.cells #[.slice Az 0 kz, .bool cz.s, .slice cz.A cz.xs.length cz.a, .slice cz.B cz.ys.length cz.b] 27); replace HS := hide (HS.out.next g); replace HT := hide (HT.out.next g); replace HM := hide (HM.out.next g); replace HC := hide (HC.out.next g); replace bb := hide (bl_trans bb.out g); clear x0 x1 x2 x3 y0 y1 y2 y3; obtain ⟨x0, x1, x2, x3⟩ := HS.out.x; obtain ⟨y0, y1, y2, y3⟩ := HT.out.x; clear vz tz zz hb g HP HN)
      | (go_at_call 29; (with_reducible refine (pb_same HS.out HT.out (mrg_comm _ _ _ (Nat.le_refl _)) (Rat.add_comm _ _) (by have := RF.out.2.2.2.2.2.2.2.2.2.2.2.2.2.2.2; omega)).mono ?_); rintro e wz ⟨rfl, hb⟩; have g := hb; replace HM := hide (HM.out.next g); replace HC := hide (HC.out.next g); replace HZ := hide (HZ.out.next g); replace bb := hide (bl_trans bb.out g); clear x0 x1 x2 x3 y0 y1 y2 y3; obtain ⟨x0, x1, x2, x3⟩ := HM.out.x; obtain ⟨y0, y1, y2, y3⟩ := HC.out.x; clear HS HT; clear hb g)
      | (go_at_call 29; (with_reducible refine (pb_same HM.out HC.out (mrg_scq' _ _ _).symm (Rat.add_mul _ _ _) (Nat.le_trans (scq'_len _ _) (by have := RF.out.2.2.2.2.2.2.2.2.2.2.2.2.2.2.2; omega))).mono ?_); rintro e wz ⟨rfl, hb⟩; have g := hb; replace HM := hide (HM.out.next g); replace HZ := hide (HZ.out.next g); replace bb := hide (bl_trans bb.out g); clear x0 x1 x2 x3 y0 y1 y2 y3; obtain ⟨x0, x1, x2, x3⟩ := HM.out.x; clear HC; clear hb g)
      | (go_at_call 25; (with_reducible refine (pb_valid HM.out (rvB_scq' _ RF.out.2.2.2.2.2.2.2.2.2.2.2.2.2.2.1) (Nat.le_trans (scq'_len _ _) (by have := RF.out.2.2.2.2.2.2.2.2.2.2.2.2.2.2.2; omega))).mono ?_); rintro e wz ⟨rfl, hb⟩; have g := hb; replace HZ := hide (HZ.out.next g); replace bb := hide (bl_trans bb.out g); clear x0 x1 x2 x3; obtain ⟨x0, x1, x2, x3⟩ := HZ.out.x; clear HM; have SG := rz_sign HZ.out; replace SG := hide SG; clear hb g)
      | (go_at_call 32; (with_reducible refine SG.out.mono ?_); rintro e wz ⟨rfl, hb⟩; replace bb := hide (bl_trans bb.out hb); clear hb x0 x1 x2 x3)
      | (go_at_call 11; (with_reducible refine (AW.out _).mono ?_); rintro e wz ⟨rfl, hb⟩; replace bb := hide (bl_trans bb.out hb); clear hb)
      | fail)
    go_ret
    exact ⟨rfl, bb.out⟩
end Nt

end Go.Proofs.YtgimmmmpollkhaaGreat
