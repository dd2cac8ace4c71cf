/-
  The law AtomForms.
-/
import Derived.Test.YtgimmmmpollkhaaGreatQZo
import Derived.Test.YtgimmmmpollkhaaGreatQZr
namespace Go.Proofs.YtgimmmmpollkhaaGreat
open Go.ChangeShapes Go.RowKit
namespace Nt
set_option maxRecDepth 100000
set_option linter.unusedSimpArgs false
set_option linter.unusedVariables false

theorem round_math (x : Int) (n : Nat) (hn : 0 < n) : ((x.tmod n) + n).tmod n = x % n := by
  have h1 := Int.tmod_eq_emod_of_nonneg (a := x.tmod n + n) (b := n) (by have := Int.lt_tmod_of_pos x (b := (n : Int)) (by omega); omega)
  rw [h1, Int.add_emod_right, Int.tmod_def, Int.sub_eq_add_neg, ← Int.mul_neg, Int.add_mul_emod_self_left]
theorem round_any (x : Int) (n : Nat) (hn : 0 < n) (hl : n ≤ 1000000) (w : World) :
    Calls Tryz.prog 48 #[.int .i64 x, .int .i64 (n : Int)] w fun e w' => e = .returned (.int .i64 (x % (n : Int))) ∧ w = w' := by
  have hm := round_math x n hn
  have b1 := Int.lt_tmod_of_pos x (b := (n : Int)) (by omega)
  have b2 := Int.tmod_lt_of_pos x (b := (n : Int)) (by omega)
  have hm := hide hm
  have hnz : (n : Int) ≠ 0 := by omega
  go_enter Tryz.func48, Tryz.ntmps48
  go_wp2
  go_ret
  exact ⟨rfl, rfl⟩
theorem add_z (t : TypeId) (x y z : Int) (h : x + y = z) (h1 : -9223372036854775808 ≤ z) (h2 : z ≤ 9223372036854775807) : binOp .add t (.int .i64 x) (.int .i64 y) = pure (.int .i64 z) := by
  have e : IntKind.i64.wrap (x + y) = z := by rw [h, IntWalk.i64_in _ ⟨by omega, by omega⟩]
  rw [← e]
  rfl
theorem rneg_p {p : Pt} (hp : p.Ok) (ca : p.xs.length ≤ p.a) (cb : p.ys.length ≤ p.b) (w : World) (aP : p.At w) : Calls Tryz.prog 49 #[rv p] w (NewR (-p.q) w) := by
  rw [hp.rv]
  have h1 : ln (qn p.q) = p.xs.length := by rw [hp.x]; rfl
  have h2 : ln (qd p.q) = p.ys.length := by rw [hp.y]; rfl
  exact (rneg_q p.q _ rfl _ _ _ _ w (hp.sl aP).1 (hp.sl aP).2 hp.f (by rw [h1]; exact ca) (by rw [h2]; exact cb)).mono fun e w' h => h.newR (fitq_neg hp.f)
theorem pb_rscale {L : List (Rat × Int)} {q : Rat} {g : Nat} {A : Option Addr} {n k : Nat} {l : List Pt} {c kk : Pt} {W : World} (h : Pb L q g A n k l c W) (hk : kk.Ok) (ak : kk.At W) (hv : rvB (-1) L) (hl : L.length ≤ 1000) (hf : ∀ x ∈ L, fitB (x.1 * kk.q) = true) (hf' : fitB (q * kk.q) = true) :
    Calls Tryz.prog 15 #[.agg #[.slice A n k, .bool c.s, .slice c.A c.xs.length c.a, .slice c.B c.ys.length c.b], .agg #[.bool kk.s, .slice kk.A kk.xs.length kk.a, .slice kk.B kk.ys.length kk.b]] W (PR W (scq' kk.q L) (q * kk.q)) := by
  have h1 := h.hn
  subst h1
  have := rscale_ok A l k c kk W h.pl h.ok (h.v hv) h.at_ h.ck ak hk (by rw [h.len]; exact hl) (by rw [scB_q, h.qt, h.hq, hf', Bool.and_true]; exact List.all_eq_true.2 hf)
  rw [scaleL_q, h.qt, h.hq] at this
  exact this
/-- The facts of the law: a sum L, q, and a number K that it is multiplied by. -/
theorem forms_facts {L : List (Rat × Int)} {q K : Rat} (kd : Int) (hL : small 8 L) (hq : bnd 8 q) (hK : bnd 8 K) (vL : rvB (-1) L) (nL : L.length ≤ 10) (k0 : K ≠ 0) (hp : kd = 3 ∨ qs K = false) :
    (∀ x ∈ L, fitB (x.1 * K) = true) ∧ fitB (q * K) = true ∧ fmB kd q L = true ∧ fmB kd (q * K) (scq' K L) = true ∧ fmL kd (scq' K L) = fmL kd L ∧ rvB (-1) (scq' K L) ∧ (scq' K L).length ≤ 1000 ∧ rvB (-1) (fmL kd L) ∧ (fmL kd L).length ≤ 1000 ∧ Mf kd (fmL kd L) (fmQ kd q L) ∧ L.length ≤ 1000 :=
  have fs := fm_small (n := kd) hL hq vL
  ⟨fun x hx => fitB_bnd (bnd_mul (hL x hx) hK) (by decide), fitB_bnd (bnd_mul hq hK) (by decide), fs.2.2, fmB_mul vL k0 hp fs.2.2, fmL_mul vL k0 hp, rvB_scq' _ vL, Nat.le_trans (scq'_len _ _) (by omega), rvB_fmL vL, Nat.le_trans (fmL_len _ _) (by omega), mf_made vL q, by omega⟩
theorem mf_form {k : Int} {L : List (Rat × Int)} {q : Rat} (h : Mf k L q) : formB k L = true := h.1
theorem sg_lt (q : Rat) : decide (cmpZ q.num 0 < 0) = qs q := by
  rw [cmpZ_sg]
  cases h : qs q
  · by_cases h0 : q = 0
    · rw [if_neg (by decide), if_pos h0]; rfl
    · rw [if_neg (by decide), if_neg h0]; rfl
  · rfl
theorem qs_neg_f {q : Rat} (h : qs q = true) : qs (-q) = false := by rw [qs_neg, h]; rfl
def W02 (w : World) (c kk : Pt) (A : Option Addr) (n kc : Nat) : World := (w.alloc (.cells #[.slice A n kc, .bool c.s, .slice c.A c.xs.length c.a, .slice c.B c.ys.length c.b] 27)).alloc (.cells #[.bool kk.s, .slice kk.A kk.xs.length kk.a, .slice kk.B kk.ys.length kk.b] 25)
/-- The boxes of a sum and a number. -/
def B2 (w : World) (c kk : Pt) (A : Option Addr) (n kc : Nat) (W : World) : Prop := C4 w.heap.size (.slice A n kc) (.bool c.s) (.slice c.A c.xs.length c.a) (.slice c.B c.ys.length c.b) W ∧ Bk (w.heap.size + 1) #[.bool kk.s, .slice kk.A kk.xs.length kk.a, .slice kk.B kk.ys.length kk.b] 25 W
theorem B2.start (w : World) (c kk : Pt) (A : Option Addr) (n kc : Nat) : B2 w c kk A n kc (W02 w c kk A n kc) ∧ Below w.heap.size w (W02 w c kk A n kc) := by
  have h1 : Bk w.heap.size #[.slice A n kc, .bool c.s, .slice c.A c.xs.length c.a, .slice c.B c.ys.length c.b] 27 (W02 w c kk A n kc) := (Bk.new _ _ w).al _
  have h2 : Bk (w.heap.size + 1) #[.bool kk.s, .slice kk.A kk.xs.length kk.a, .slice kk.B kk.ys.length kk.b] 25 (W02 w c kk A n kc) := Bk.new1 _ _ w _
  exact ⟨⟨C4.of h1, h2⟩, bl_al (bl_al (.refl _ _) _) _⟩
theorem B2.next {w : World} {c kk : Pt} {A : Option Addr} {n kc : Nat} {W W' : World} (h : B2 w c kk A n kc W) (hb : Below W.heap.size W W') : B2 w c kk A n kc W' := ⟨h.1.next hb, h.2.next hb⟩

set_option maxHeartbeats 16000000 in
theorem forms_law (A : Option Addr) (l : List Pt) (kc : Nat) (c kk : Pt) (kind : Int) (w : World) (hl : Pl w A l) (hc : c.At w) (hk : kk.At w) (ll : ∀ p ∈ l, Limbs p.xs ∧ Limbs p.ys) (lc : Limbs c.xs ∧ Limbs c.ys) (lkk : Limbs kk.xs ∧ Limbs kk.ys) (nl : l.length ≤ kc) (nk : kc ≤ maxLen) (ca : kk.xs.length ≤ kk.a) (cb : kk.ys.length ≤ kk.b) :
    Calls Tryz.prog 6 #[polyV A l.length kc c, rv kk, .int .i64 kind] w fun e w' => e = .returned (.bool true) ∧ Below w.heap.size w w' := by
  have AW := hide (fun W => awake9_any W)
  have hmx : maxLen ≤ 9223372036854775807 := by unfold maxLen; decide
  have P1 := hide (fun W (b : Below w.heap.size w W) => pfew_any A l kc c W (hl.next b) (by omega))
  obtain ⟨r3, hr3⟩ : ∃ r, kk.few8 = r := ⟨_, rfl⟩
  have P3 := hide (fun W => fewR_any kk.s kk.A kk.B kk.xs.length kk.ys.length kk.a kk.b W r3 hr3)
  obtain ⟨v1, hv1⟩ : ∃ v, (pvB (-1) l && c.ok) = v := ⟨_, rfl⟩
  obtain ⟨v3, hv3⟩ : ∃ v, kk.ok = v := ⟨_, rfl⟩
  have V1 := hide (fun (h : l.length ≤ 10 ∧ (∀ p ∈ l, p.few8 = true) ∧ c.few8 = true) W (b : Below w.heap.size w W) => rvalidP_any A l kc c W (hl.next b) (hc.next b) (fun p hp => few_o (ll p hp) (h.2.1 p hp)) (few_o lc h.2.2) (by omega) v1 hv1)
  have V3 := hide (fun (h : r3 = true) W (b : Below w.heap.size w W) => rvalidQ_any kk.s kk.A kk.B kk.a kk.b kk.xs kk.ys W (hk.next b).1 (hk.next b).2 lkk.1 lkk.2 (by have := few_o lkk (hr3.trans h); exact this.mx) (by have := few_o lkk (hr3.trans h); exact this.my) v3 hv3)
  obtain ⟨z, hz⟩ : ∃ z, cmpZ kk.q.num 0 = z := ⟨_, rfl⟩
  obtain ⟨zb, hzb⟩ : ∃ b, decide (z = 0) = b := ⟨_, rfl⟩
  obtain ⟨zs, hzs⟩ : ∃ b, decide (z < 0) = b := ⟨_, rfl⟩
  have e1 := eql_b 3 z 0 zb hzb
  have e2 := lss_b 3 z 0 zs hzs
  have SG := hide (fun (h : r3 = true ∧ v3 = true) W (b : Below w.heap.size w W) => (show Calls Tryz.prog 32 #[rv kk] W (fun e w' => e = .returned (.int .i64 z) ∧ Below W.heap.size W w') from (by
    have := rsign_p (ok_of (few_o lkk (hr3.trans h.1)) (hv3.trans h.2)) W (hk.next b)
    rw [hz] at this
    exact this)))
  have NG := hide (fun (h : r3 = true ∧ v3 = true) W (b : Below w.heap.size w W) => rneg_p (ok_of (few_o lkk (hr3.trans h.1)) (hv3.trans h.2)) ca cb W (hk.next b))
  have RD := hide (fun W => (show Calls Tryz.prog 48 #[.int .i64 kind, .int .i64 4] W (fun e w' => e = .returned (.int .i64 (kind % 4)) ∧ W = w') from round_any kind 4 (by decide) (by decide) W))
  have st := B2.start w c kk A l.length kc
  obtain ⟨bb, B_⟩ : Hid (Below w.heap.size w (W02 w c kk A l.length kc)) ∧ Hid (B2 w c kk A l.length kc (W02 w c kk A l.length kc)) := ⟨hide st.2, hide st.1⟩
  clear st
  have PPl := hide (fun W (b : Below w.heap.size w W) => hl.next b)
  have PAc := hide (fun W (b : Below w.heap.size w W) => And.intro (hc.next b) (hk.next b))
  replace ll := hide ll; replace lc := hide lc; replace lkk := hide lkk
  replace hr3 := hide hr3; replace hv1 := hide hv1; replace hv3 := hide hv3; replace hz := hide hz; replace hzb := hide hzb; replace hzs := hide hzs
  replace nl := hide nl
  clear hl hc hk ca cb
  obtain ⟨n, hn⟩ : ∃ n, n = l.length := ⟨_, rfl⟩
  unfold polyV rv at *
  unfold W02 at bb B_
  rw [← hn] at P1 V1 bb B_ nl ⊢
  replace hn := hide hn
  obtain ⟨⟨x0, x1, x2, x3⟩, hKb⟩ := B_.out
  have z0 := hKb.cell (j := 0) rfl; have z1 := hKb.cell (j := 1) rfl; have z2 := hKb.cell (j := 2) rfl
  clear hKb
  go_enter Tryz.func6, Tryz.ntmps6
  go_upto_region 3 with (first
    | (go_at_call 8; (with_reducible refine (P1.out _ bb.out).mono ?_); rintro e w1 ⟨r1, rfl, hb, h1⟩; replace bb := hide (bl_trans bb.out hb); replace B_ := hide (B_.out.next hb); clear hb x0 x1 x2 x3 z0 z1 z2; obtain ⟨⟨x0, x1, x2, x3⟩, hKb⟩ := B_.out; have z0 := hKb.cell (j := 0) rfl; have z1 := hKb.cell (j := 1) rfl; have z2 := hKb.cell (j := 2) rfl; clear hKb; cases r1 <;> replace h1 := hide h1)
    | (go_at_call 9; (with_reducible refine (P3.out _).mono ?_); rintro e w1 ⟨rfl, hb⟩; replace bb := hide (bl_trans bb.out hb); replace B_ := hide (B_.out.next hb); clear hb x0 x1 x2 x3 z0 z1 z2; obtain ⟨⟨x0, x1, x2, x3⟩, hKb⟩ := B_.out; have z0 := hKb.cell (j := 0) rfl; have z1 := hKb.cell (j := 1) rfl; have z2 := hKb.cell (j := 2) rfl; clear hKb; cases r3)
    | (go_at_call 26; (with_reducible refine (V1.out (h1.out (by first | rfl | trivial)) _ bb.out).mono ?_); rintro e w1 ⟨rfl, hb⟩; replace bb := hide (bl_trans bb.out hb); replace B_ := hide (B_.out.next hb); clear hb x0 x1 x2 x3 z0 z1 z2; obtain ⟨⟨x0, x1, x2, x3⟩, hKb⟩ := B_.out; have z0 := hKb.cell (j := 0) rfl; have z1 := hKb.cell (j := 1) rfl; have z2 := hKb.cell (j := 2) rfl; clear hKb; cases v1)
    | (go_at_call 30; (with_reducible refine (V3.out (by first | rfl | trivial) _ bb.out).mono ?_); rintro e w1 ⟨rfl, hb⟩; replace bb := hide (bl_trans bb.out hb); replace B_ := hide (B_.out.next hb); clear hb x0 x1 x2 x3 z0 z1 z2; obtain ⟨⟨x0, x1, x2, x3⟩, hKb⟩ := B_.out; have z0 := hKb.cell (j := 0) rfl; have z1 := hKb.cell (j := 1) rfl; have z2 := hKb.cell (j := 2) rfl; clear hKb; cases v3)
    | (go_at_call 32; (with_reducible refine (SG.out (by first | exact ⟨rfl, rfl⟩ | exact ⟨trivial, trivial⟩) _ bb.out).mono ?_); rintro e w1 ⟨rfl, hb⟩; replace bb := hide (bl_trans bb.out hb); replace B_ := hide (B_.out.next hb); clear hb x0 x1 x2 x3 z0 z1 z2; obtain ⟨⟨x0, x1, x2, x3⟩, hKb⟩ := B_.out; have z0 := hKb.cell (j := 0) rfl; have z1 := hKb.cell (j := 1) rfl; have z2 := hKb.cell (j := 2) rfl; clear hKb; cases zb)
    | (go_at_call 35; (with_reducible refine (AW.out _).mono ?_); rintro e w1 ⟨rfl, hb⟩; replace bb := hide (bl_trans bb.out hb); clear hb)
    | fail)
  · go_ret
    exact ⟨rfl, bb.out⟩
  · go_ret
    exact ⟨rfl, bb.out⟩
  · go_ret
    exact ⟨rfl, bb.out⟩
  · go_ret
    exact ⟨rfl, bb.out⟩
  · have H1 := h1.out (by first | rfl | trivial)
    have hv1' := hv1.out
    rw [Bool.and_eq_true] at hv1'
    have okl := pvB_ok hv1'.1 (fun p hp => few_o (ll.out p hp) (H1.2.1 p hp))
    have okc := ok_of (few_o lc.out H1.2.2) hv1'.2
    have okk := ok_of (few_o lkk.out hr3.out) hv3.out
    have vL := (pvB_rvB okl (-1)).1 hv1'.1
    have sL := small_o okl H1.2.1
    have bq := bnd_o okc H1.2.2
    have bk := bnd_o okk hr3.out
    have nL : (l.map Pt.qt).length ≤ 10 := by rw [List.length_map, ← hn.out]; exact H1.1
    have k00 : kk.q ≠ 0 := fun e => of_decide_eq_false hzb.out (by rw [← hz.out, e]; rfl)
    have hzq : qs kk.q = zs := by rw [← sg_lt, hz.out]; exact hzs.out
    obtain ⟨bn, hbn⟩ : ∃ b, decide ((n : Int) = 0) = b := ⟨_, rfl⟩
    have e6 := eql_b 3 (n : Int) 0 bn hbn
    obtain ⟨nn, hnn⟩ : ∃ x, 1 + kind % 4 = x := ⟨_, rfl⟩
    have hn4 : nn = 1 ∨ nn = 2 ∨ nn = 3 ∨ nn = 4 := by omega
    have e3 := add_z 3 1 (kind % 4) nn hnn (by omega) (by omega)
    have HPx := hide (fun W (b : Below w.heap.size w W) (x : C4 w.heap.size (.slice A n kc) (.bool c.s) (.slice c.A c.xs.length c.a) (.slice c.B c.ys.length c.b) W) => (show Pb (l.map Pt.qt) c.q w.heap.size A n kc l c W from ⟨hn.out, rfl, rfl, PPl.out _ b, (PAc.out _ b).1, okl, okc, by rw [← hn.out]; exact nl.out, nk, x⟩))
    replace okk := hide okk
    clear H1 hv1' okl okc P1 P3 V1 V3 ll lc lkk h1 hr3 hv1 hv3 hzb hz hzs hmx e1
    have SG' := hide (SG.out (by first | exact ⟨rfl, rfl⟩ | exact ⟨trivial, trivial⟩))
    have NG' := hide (NG.out (by first | exact ⟨rfl, rfl⟩ | exact ⟨trivial, trivial⟩))
    clear SG NG
    rcases hn4 with h4 | h4 | h4 | h4
    · as_aux_lemma =>
        subst h4
        have hop : Hid (oppB 1 = true) := hide (by decide)
        cases zs
        · go_upto_region 6 with (first
              | (go_at_call 48; (with_reducible refine (RD.out _).mono ?_); rintro e wz ⟨rfl, rfl⟩)
              | (go_at_call 32; (with_reducible refine (SG'.out _ bb.out).mono ?_); rintro e w3 ⟨rfl, hb⟩; replace bb := hide (bl_trans bb.out hb); replace B_ := hide (B_.out.next hb); clear hb x0 x1 x2 x3 z0 z1 z2; obtain ⟨⟨x0, x1, x2, x3⟩, hKb⟩ := B_.out; have z0 := hKb.cell (j := 0) rfl; have z1 := hKb.cell (j := 1) rfl; have z2 := hKb.cell (j := 2) rfl; clear hKb)
              | fail)
          have okK := okk.out
          have HK : Hid (Rb kk.q (w.heap.size + 1) kk w3) := hide ⟨rfl, okk.out, (PAc.out _ bb.out).2, C3.of B_.out.2⟩
          have HP := hide (HPx.out _ bb.out B_.out.1)
          have k0 := k00
          have bK := bk
          clear HPx B_ PPl PAc NG' SG' okk x0 x1 x2 x3 z0 z1 z2 k00 bk e2 e3 hnn nl nk
          have hp : (1 : Int) = 3 ∨ qs kk.q = false := .inr hzq
          have hqs := hzq
          clear hzq
          have FX := forms_facts 1 sL bq bK vL nL k0 hp
          obtain ⟨M, hM⟩ : ∃ M, fmL 1 (l.map Pt.qt) = M := ⟨_, rfl⟩
          obtain ⟨R, hR⟩ : ∃ R, fmQ 1 c.q (l.map Pt.qt) = R := ⟨_, rfl⟩
          obtain ⟨R2, hR2⟩ : ∃ R, fmQ 1 (c.q * kk.q) (scq' kk.q (l.map Pt.qt)) = R := ⟨_, rfl⟩
          obtain ⟨fS1, fS2, fA, fB, hM2, vS, lS, vM, lM, mM, lL⟩ := FX
          rw [hM] at hM2 vM lM mM
          rw [hR] at mM
          have hRR : (l.map Pt.qt ≠ [] ∨ qs kk.q = false) → R2 = R := fun h => by rw [← hR2, ← hR]; exact fmQ_mul' vL k0 hp h c.q
          have hbn' : bn = false → l.map Pt.qt ≠ [] := fun e h => by
            have h2 : l.length = 0 := by rw [← List.length_map (f := Pt.qt), h]; rfl
            rw [← hn.out] at h2
            subst h2
            rw [e] at hbn
            exact of_decide_eq_false hbn rfl
          obtain ⟨zk, hzk⟩ : ∃ x, cmpZ kk.q.num 0 = x := ⟨_, rfl⟩
          have e5 := lss_b 3 zk 0 false (by rw [← hzk, sg_lt]; exact hqs)
          have okK' := hide okK
          have SGK := hide (fun W (a : kk.At W) => (show Calls Tryz.prog 32 #[.agg #[.bool kk.s, .slice kk.A kk.xs.length kk.a, .slice kk.B kk.ys.length kk.b]] W (fun e w' => e = .returned (.int .i64 zk) ∧ Below W.heap.size W w') from (by
            have := rsign_p okK W a
            rw [hzk] at this
            exact this)))
          replace hRR := hide hRR; replace hbn' := hide hbn'; replace hM := hide hM; replace hR := hide hR; replace hR2 := hide hR2; replace hM2 := hide hM2; replace fS1 := hide fS1; replace fS2 := hide fS2; replace fA := hide fA; replace fB := hide fB; replace vS := hide vS; replace lS := hide lS; replace vM := hide vM; replace lM := hide lM; replace mM := hide mM; replace lL := hide lL; replace vL := hide vL; replace hqs := hide hqs; replace hbn := hide hbn
          clear sL bq bK nL k0 hp hzk okK
          obtain ⟨x0, x1, x2, x3⟩ := HP.out.x
          obtain ⟨z0, z1, z2⟩ := HK.out.x
          go_upto_region 11 with (first
              | (go_at_call 15; (with_reducible refine (pb_rscale HP.out okK'.out HK.out.at_ vL.out lL.out fS1.out fS2.out).mono ?_); rintro e wz ⟨As, ks, ls, cs, rfl, ms, vs, ps, ts, os, zs, hb, ws, ys⟩; (try unfold atomV); (try unfold polyV); have g := bl_al hb (.cells #[.slice As ls.length ks, .bool cs.s, .slice cs.A cs.xs.length cs.a, .slice cs.B cs.ys.length cs.b] 27); have HS := hide (pb_new (k := ks) ms vs ps ts os zs ws ys); replace HP := hide (HP.out.next g); replace HK := hide (HK.out.next g); replace bb := hide (bl_trans bb.out g); clear x0 x1 x2 x3; clear z0 z1 z2; clear hb g; clear ms vs ps ts os zs ws ys; obtain ⟨x0, x1, x2, x3⟩ := HP.out.x; obtain ⟨z0, z1, z2⟩ := HK.out.x; obtain ⟨s0, s1, s2, s3⟩ := HS.out.x)
              | (go_at_call 50; (with_reducible refine (pb_make 1 HP.out (by decide) 1 (by decide) false (by decide) vL.out lL.out fA.out hM.out hR.out).mono ?_); rintro e wz ⟨Aa, ka, la, ca, rfl, ma, va, pa, ta, oa, za, hb, wa, ya⟩; (try unfold atomV); (try unfold polyV); have g := bl_al hb (.cells #[.int .i64 1, .slice Aa la.length ka, .bool ca.s, .slice ca.A ca.xs.length ca.a, .slice ca.B ca.ys.length ca.b, .int .i64 0, .int .i64 0] 58); have HA := hide (ab_new (kd := (1)) ma va pa ta oa za wa ya); replace HP := hide (HP.out.next g); replace HK := hide (HK.out.next g); replace HS := hide (HS.out.next g); replace bb := hide (bl_trans bb.out g); clear x0 x1 x2 x3; clear z0 z1 z2; clear s0 s1 s2 s3; clear hb g; clear ma va pa ta oa za wa ya; obtain ⟨x0, x1, x2, x3⟩ := HP.out.x; obtain ⟨z0, z1, z2⟩ := HK.out.x; obtain ⟨s0, s1, s2, s3⟩ := HS.out.x)
              | (go_at_call 50; (with_reducible refine (pb_make 1 HS.out (by decide) 1 (by decide) false (by decide) vS.out lS.out fB.out hM2.out hR2.out).mono ?_); rintro e wz ⟨Ab, kb, lb, cb, rfl, mb, vb, pb, tb, ob, zb, hb, wb, yb⟩; (try unfold atomV); (try unfold polyV); have g := bl_al hb (.cells #[.int .i64 1, .slice Ab lb.length kb, .bool cb.s, .slice cb.A cb.xs.length cb.a, .slice cb.B cb.ys.length cb.b, .int .i64 0, .int .i64 0] 58); have HB := hide (ab_new (kd := (1)) mb vb pb tb ob zb wb yb); replace HP := hide (HP.out.next g); replace HK := hide (HK.out.next g); replace HA := hide (HA.out.next g); replace bb := hide (bl_trans bb.out g); clear x0 x1 x2 x3; clear z0 z1 z2; clear s0 s1 s2 s3; clear HS; clear hb g; clear mb vb pb tb ob zb wb yb; obtain ⟨x0, x1, x2, x3⟩ := HP.out.x; obtain ⟨z0, z1, z2⟩ := HK.out.x)
              | fail)
          generalize wz.alloc _ = wq at *
          go_cut [95] (fun s wx => s = .bool (false) ∧ Below wq.heap.size wq wx)
          case first =>
            cases bn
            · go_wp2_with fail
              go_meet
              exact ⟨rfl, .refl _ _⟩
            · go_wp2_with (go_at_call 32; (with_reducible refine (SGK.out _ HK.out.at_).mono ?_); rintro e wz ⟨rfl, hb⟩)
              go_meet
              exact ⟨by first | rfl | (cases zk2 <;> rfl), hb⟩
          case rest =>
            obtain ⟨rfl, g⟩ := hcut
            replace HA := hide (HA.out.next g); replace HB := hide (HB.out.next g); replace bb := hide (bl_trans bb.out g)
            clear g x0 x1 x2 x3 z0 z1 z2 HP HK SGK e5
            have hRe : Hid (R2 = R) := hide (hRR.out (.inr hqs.out))
            have fM := HA.out.fits
            have mO := hide (mf_not hop.out mM.out fM.1 fM.2).2.2.2
            have vO := hide (rvB_scq (k := -1) (by decide) vM.out)
            have lO : Hid ((scq (-1) M).length ≤ 1000) := hide (by unfold scq; rw [List.length_map]; exact lM.out)
            clear fM
            obtain ⟨a0, a1, a2, a3, a4, a5, a6⟩ := HA.out.x
            obtain ⟨b0, b1, b2, b3, b4, b5, b6⟩ := HB.out.x
            go_wp2_with (first
                | (go_at_call 47; (with_reducible refine (ab_same HA.out HB.out lM.out lM.out true (by rw [hRe.out]; simp)).mono ?_); rintro e wz ⟨rfl, hb⟩; have g := hb; replace HA := hide (HA.out.next g); replace bb := hide (bl_trans bb.out g); clear a0 a1 a2 a3 a4 a5 a6; clear b0 b1 b2 b3 b4 b5 b6; clear HB; clear hb g; obtain ⟨a0, a1, a2, a3, a4, a5, a6⟩ := HA.out.x)
                | (go_at_call 44; (with_reducible refine (ab_valid HA.out (by decide) vM.out lM.out true (mf_form mM.out)).mono ?_); rintro e wz ⟨rfl, hb⟩; have g := hb; replace HA := hide (HA.out.next g); replace bb := hide (bl_trans bb.out g); clear a0 a1 a2 a3 a4 a5 a6; clear hb g; obtain ⟨a0, a1, a2, a3, a4, a5, a6⟩ := HA.out.x)
                | (go_at_call 36; (with_reducible refine (ab_not HA.out (by decide) vM.out lM.out mM.out).mono ?_); rintro e wz ⟨Ao, ko, lo, co, rfl, mo, vo, po, to_, oo, zo, hb, wo, yo⟩; (try unfold atomV); (try unfold polyV); have g := bl_al hb (.cells #[.int .i64 (oppK 1), .slice Ao lo.length ko, .bool co.s, .slice co.A co.xs.length co.a, .slice co.B co.ys.length co.b, .int .i64 0, .int .i64 0] 58); have HO := hide (ab_new (kd := oppK 1) mo vo po to_ oo zo wo yo); replace HA := hide (HA.out.next g); replace bb := hide (bl_trans bb.out g); clear a0 a1 a2 a3 a4 a5 a6; clear hb g; clear mo vo po to_ oo zo wo yo; obtain ⟨a0, a1, a2, a3, a4, a5, a6⟩ := HA.out.x; obtain ⟨f0, f1, f2, f3, f4, f5, f6⟩ := HO.out.x)
                | (go_at_call 36; (with_reducible refine (ab_not HO.out (by decide) vO.out lO.out mO.out).mono ?_); rintro e wz ⟨Ae, ke, le, ce, rfl, me, ve, pe, te, oe, ze, hb, we, ye⟩; (try unfold atomV); (try unfold polyV); have g := bl_al hb (.cells #[.int .i64 (oppK (oppK 1)), .slice Ae le.length ke, .bool ce.s, .slice ce.A ce.xs.length ce.a, .slice ce.B ce.ys.length ce.b, .int .i64 0, .int .i64 0] 58); have HC := hide (ab_new (kd := (oppK (oppK 1))) me ve pe te oe ze we ye); replace HA := hide (HA.out.next g); replace HO := hide (HO.out.next g); replace bb := hide (bl_trans bb.out g); clear a0 a1 a2 a3 a4 a5 a6; clear f0 f1 f2 f3 f4 f5 f6; clear hb g; clear me ve pe te oe ze we ye; obtain ⟨a0, a1, a2, a3, a4, a5, a6⟩ := HA.out.x; obtain ⟨f0, f1, f2, f3, f4, f5, f6⟩ := HO.out.x; obtain ⟨d0, d1, d2, d3, d4, d5, d6⟩ := HC.out.x)
                | (go_at_call 47; (with_reducible refine (ab_same HC.out HA.out (by rw [scq_m1_m1]; exact lM.out) lM.out true (by rw [scq_m1_m1, m1_m1]; simp [oppK])).mono ?_); rintro e wz ⟨rfl, hb⟩; have g := hb; replace HA := hide (HA.out.next g); replace HO := hide (HO.out.next g); replace bb := hide (bl_trans bb.out g); clear a0 a1 a2 a3 a4 a5 a6; clear f0 f1 f2 f3 f4 f5 f6; clear d0 d1 d2 d3 d4 d5 d6; clear HC; clear hb g; obtain ⟨a0, a1, a2, a3, a4, a5, a6⟩ := HA.out.x; obtain ⟨f0, f1, f2, f3, f4, f5, f6⟩ := HO.out.x)
                | (go_at_call 44; (with_reducible refine (ab_valid HO.out (by decide) vO.out lO.out true (mf_form mO.out)).mono ?_); rintro e wz ⟨rfl, hb⟩; have g := hb; replace HA := hide (HA.out.next g); replace HO := hide (HO.out.next g); replace bb := hide (bl_trans bb.out g); clear a0 a1 a2 a3 a4 a5 a6; clear f0 f1 f2 f3 f4 f5 f6; clear hb g; obtain ⟨a0, a1, a2, a3, a4, a5, a6⟩ := HA.out.x; obtain ⟨f0, f1, f2, f3, f4, f5, f6⟩ := HO.out.x)
                | (go_at_call 47; (with_reducible refine (ab_same HO.out HA.out lO.out lM.out false (by simp [oppK])).mono ?_); rintro e wz ⟨rfl, hb⟩; have g := hb; replace bb := hide (bl_trans bb.out g); clear a0 a1 a2 a3 a4 a5 a6; clear f0 f1 f2 f3 f4 f5 f6; clear HA HO; clear hb g)
                | (go_at_call 35; (with_reducible refine (AW.out _).mono ?_); rintro e wz ⟨rfl, hb⟩; replace bb := hide (bl_trans bb.out hb); clear hb)
                | fail)
            go_ret
            exact ⟨rfl, bb.out⟩
        · go_upto_region 6 with (first
              | (go_at_call 48; (with_reducible refine (RD.out _).mono ?_); rintro e wz ⟨rfl, rfl⟩)
              | (go_at_call 32; (with_reducible refine (SG'.out _ bb.out).mono ?_); rintro e w3 ⟨rfl, hb⟩; replace bb := hide (bl_trans bb.out hb); replace B_ := hide (B_.out.next hb); clear hb x0 x1 x2 x3 z0 z1 z2; obtain ⟨⟨x0, x1, x2, x3⟩, hKb⟩ := B_.out; have z0 := hKb.cell (j := 0) rfl; have z1 := hKb.cell (j := 1) rfl; have z2 := hKb.cell (j := 2) rfl; clear hKb)
              | (go_at_call 49; (with_reducible refine (NG'.out _ bb.out).mono ?_); rintro e wn ⟨r, rfl, rq, rk, ra, hb⟩; replace bb := hide (bl_trans bb.out hb); replace B_ := hide (B_.out.next hb); clear hb x0 x1 x2 x3 z0 z1 z2; obtain ⟨⟨x0, x1, x2, x3⟩, hKb⟩ := B_.out; have z0 := hKb.cell (j := 0) rfl; have z1 := hKb.cell (j := 1) rfl; have z2 := hKb.cell (j := 2) rfl; clear hKb; have u0 := B_.out.2.free 0; have u1 := B_.out.2.free 1; have u2 := B_.out.2.free 2)
              | fail)
          have hO := off3 (w.heap.size + 1) wn (.bool r.s) (.slice r.A r.xs.length r.a) (.slice r.B r.ys.length r.b)
          have HKb : Bk (w.heap.size + 1) #[.bool r.s, .slice r.A r.xs.length r.a, .slice r.B r.ys.length r.b] 25 (((wn.setCell ⟨w.heap.size + 1, 0, none⟩ (.bool r.s)).setCell ⟨w.heap.size + 1, 1, none⟩ (.slice r.A r.xs.length r.a)).setCell ⟨w.heap.size + 1, 2, none⟩ (.slice r.B r.ys.length r.b)) := (((B_.out.2.set (.bool r.s) rfl).set (.slice r.A r.xs.length r.a) rfl).set (.slice r.B r.ys.length r.b) rfl)
          have hx : C4 w.heap.size (.slice A n kc) (.bool c.s) (.slice c.A c.xs.length c.a) (.slice c.B c.ys.length c.b) (((wn.setCell ⟨w.heap.size + 1, 0, none⟩ (.bool r.s)).setCell ⟨w.heap.size + 1, 1, none⟩ (.slice r.A r.xs.length r.a)).setCell ⟨w.heap.size + 1, 2, none⟩ (.slice r.B r.ys.length r.b)) := B_.out.1.off hO (by simp)
          have hra : r.At (((wn.setCell ⟨w.heap.size + 1, 0, none⟩ (.bool r.s)).setCell ⟨w.heap.size + 1, 1, none⟩ (.slice r.A r.xs.length r.a)).setCell ⟨w.heap.size + 1, 2, none⟩ (.slice r.B r.ys.length r.b)) := ⟨B_.out.2.sl (box_noU kk) ra.1 hO, B_.out.2.sl (box_noU kk) ra.2 hO⟩
          have hbk : Below w.heap.size w (((wn.setCell ⟨w.heap.size + 1, 0, none⟩ (.bool r.s)).setCell ⟨w.heap.size + 1, 1, none⟩ (.slice r.A r.xs.length r.a)).setCell ⟨w.heap.size + 1, 2, none⟩ (.slice r.B r.ys.length r.b)) := bb.out.trans (hO.below bb.out.size (fun b hb => by simp at hb; omega))
          clear hO ra u0 u1 u2 x0 x1 x2 x3 z0 z1 z2 B_ bb
          generalize (((wn.setCell ⟨w.heap.size + 1, 0, none⟩ (.bool r.s)).setCell ⟨w.heap.size + 1, 1, none⟩ (.slice r.A r.xs.length r.a)).setCell ⟨w.heap.size + 1, 2, none⟩ (.slice r.B r.ys.length r.b)) = wk at *
          have bb := hide hbk
          have okK := rk
          have HK : Hid (Rb r.q (w.heap.size + 1) r wk) := hide ⟨rfl, rk, hra, C3.of HKb⟩
          have HP := hide (HPx.out _ bb.out hx)
          have k0 : r.q ≠ 0 := by rw [rq]; intro e; exact k00 (by rw [← Rat.neg_neg kk.q, e]; rfl)
          have bK : bnd 8 r.q := by rw [rq]; exact bnd_neg bk
          have hqs : qs r.q = false := by rw [rq]; exact qs_neg_f hzq
          have hp : (1 : Int) = 3 ∨ qs r.q = false := .inr hqs
          clear HPx PPl PAc NG' SG' okk hra hbk hx HKb rk rq k00 bk hzq e2 e3 hnn nl nk
          have FX := forms_facts 1 sL bq bK vL nL k0 hp
          obtain ⟨M, hM⟩ : ∃ M, fmL 1 (l.map Pt.qt) = M := ⟨_, rfl⟩
          obtain ⟨R, hR⟩ : ∃ R, fmQ 1 c.q (l.map Pt.qt) = R := ⟨_, rfl⟩
          obtain ⟨R2, hR2⟩ : ∃ R, fmQ 1 (c.q * r.q) (scq' r.q (l.map Pt.qt)) = R := ⟨_, rfl⟩
          obtain ⟨fS1, fS2, fA, fB, hM2, vS, lS, vM, lM, mM, lL⟩ := FX
          rw [hM] at hM2 vM lM mM
          rw [hR] at mM
          have hRR : (l.map Pt.qt ≠ [] ∨ qs r.q = false) → R2 = R := fun h => by rw [← hR2, ← hR]; exact fmQ_mul' vL k0 hp h c.q
          have hbn' : bn = false → l.map Pt.qt ≠ [] := fun e h => by
            have h2 : l.length = 0 := by rw [← List.length_map (f := Pt.qt), h]; rfl
            rw [← hn.out] at h2
            subst h2
            rw [e] at hbn
            exact of_decide_eq_false hbn rfl
          obtain ⟨zk, hzk⟩ : ∃ x, cmpZ r.q.num 0 = x := ⟨_, rfl⟩
          have e5 := lss_b 3 zk 0 false (by rw [← hzk, sg_lt]; exact hqs)
          have okK' := hide okK
          have SGK := hide (fun W (a : r.At W) => (show Calls Tryz.prog 32 #[.agg #[.bool r.s, .slice r.A r.xs.length r.a, .slice r.B r.ys.length r.b]] W (fun e w' => e = .returned (.int .i64 zk) ∧ Below W.heap.size W w') from (by
            have := rsign_p okK W a
            rw [hzk] at this
            exact this)))
          replace hRR := hide hRR; replace hbn' := hide hbn'; replace hM := hide hM; replace hR := hide hR; replace hR2 := hide hR2; replace hM2 := hide hM2; replace fS1 := hide fS1; replace fS2 := hide fS2; replace fA := hide fA; replace fB := hide fB; replace vS := hide vS; replace lS := hide lS; replace vM := hide vM; replace lM := hide lM; replace mM := hide mM; replace lL := hide lL; replace vL := hide vL; replace hqs := hide hqs; replace hbn := hide hbn
          clear sL bq bK nL k0 hp hzk okK
          obtain ⟨x0, x1, x2, x3⟩ := HP.out.x
          obtain ⟨z0, z1, z2⟩ := HK.out.x
          go_upto_region 11 with (first
              | (go_at_call 15; (with_reducible refine (pb_rscale HP.out okK'.out HK.out.at_ vL.out lL.out fS1.out fS2.out).mono ?_); rintro e wz ⟨As, ks, ls, cs, rfl, ms, vs, ps, ts, os, zs, hb, ws, ys⟩; (try unfold atomV); (try unfold polyV); have g := bl_al hb (.cells #[.slice As ls.length ks, .bool cs.s, .slice cs.A cs.xs.length cs.a, .slice cs.B cs.ys.length cs.b] 27); have HS := hide (pb_new (k := ks) ms vs ps ts os zs ws ys); replace HP := hide (HP.out.next g); replace HK := hide (HK.out.next g); replace bb := hide (bl_trans bb.out g); clear x0 x1 x2 x3; clear z0 z1 z2; clear hb g; clear ms vs ps ts os zs ws ys; obtain ⟨x0, x1, x2, x3⟩ := HP.out.x; obtain ⟨z0, z1, z2⟩ := HK.out.x; obtain ⟨s0, s1, s2, s3⟩ := HS.out.x)
              | (go_at_call 50; (with_reducible refine (pb_make 1 HP.out (by decide) 1 (by decide) false (by decide) vL.out lL.out fA.out hM.out hR.out).mono ?_); rintro e wz ⟨Aa, ka, la, ca, rfl, ma, va, pa, ta, oa, za, hb, wa, ya⟩; (try unfold atomV); (try unfold polyV); have g := bl_al hb (.cells #[.int .i64 1, .slice Aa la.length ka, .bool ca.s, .slice ca.A ca.xs.length ca.a, .slice ca.B ca.ys.length ca.b, .int .i64 0, .int .i64 0] 58); have HA := hide (ab_new (kd := (1)) ma va pa ta oa za wa ya); replace HP := hide (HP.out.next g); replace HK := hide (HK.out.next g); replace HS := hide (HS.out.next g); replace bb := hide (bl_trans bb.out g); clear x0 x1 x2 x3; clear z0 z1 z2; clear s0 s1 s2 s3; clear hb g; clear ma va pa ta oa za wa ya; obtain ⟨x0, x1, x2, x3⟩ := HP.out.x; obtain ⟨z0, z1, z2⟩ := HK.out.x; obtain ⟨s0, s1, s2, s3⟩ := HS.out.x)
              | (go_at_call 50; (with_reducible refine (pb_make 1 HS.out (by decide) 1 (by decide) false (by decide) vS.out lS.out fB.out hM2.out hR2.out).mono ?_); rintro e wz ⟨Ab, kb, lb, cb, rfl, mb, vb, pb, tb, ob, zb, hb, wb, yb⟩; (try unfold atomV); (try unfold polyV); have g := bl_al hb (.cells #[.int .i64 1, .slice Ab lb.length kb, .bool cb.s, .slice cb.A cb.xs.length cb.a, .slice cb.B cb.ys.length cb.b, .int .i64 0, .int .i64 0] 58); have HB := hide (ab_new (kd := (1)) mb vb pb tb ob zb wb yb); replace HP := hide (HP.out.next g); replace HK := hide (HK.out.next g); replace HA := hide (HA.out.next g); replace bb := hide (bl_trans bb.out g); clear x0 x1 x2 x3; clear z0 z1 z2; clear s0 s1 s2 s3; clear HS; clear hb g; clear mb vb pb tb ob zb wb yb; obtain ⟨x0, x1, x2, x3⟩ := HP.out.x; obtain ⟨z0, z1, z2⟩ := HK.out.x)
              | fail)
          generalize wz.alloc _ = wq at *
          go_cut [95] (fun s wx => s = .bool (false) ∧ Below wq.heap.size wq wx)
          case first =>
            cases bn
            · go_wp2_with fail
              go_meet
              exact ⟨rfl, .refl _ _⟩
            · go_wp2_with (go_at_call 32; (with_reducible refine (SGK.out _ HK.out.at_).mono ?_); rintro e wz ⟨rfl, hb⟩)
              go_meet
              exact ⟨by first | rfl | (cases zk2 <;> rfl), hb⟩
          case rest =>
            obtain ⟨rfl, g⟩ := hcut
            replace HA := hide (HA.out.next g); replace HB := hide (HB.out.next g); replace bb := hide (bl_trans bb.out g)
            clear g x0 x1 x2 x3 z0 z1 z2 HP HK SGK e5
            have hRe : Hid (R2 = R) := hide (hRR.out (.inr hqs.out))
            have fM := HA.out.fits
            have mO := hide (mf_not hop.out mM.out fM.1 fM.2).2.2.2
            have vO := hide (rvB_scq (k := -1) (by decide) vM.out)
            have lO : Hid ((scq (-1) M).length ≤ 1000) := hide (by unfold scq; rw [List.length_map]; exact lM.out)
            clear fM
            obtain ⟨a0, a1, a2, a3, a4, a5, a6⟩ := HA.out.x
            obtain ⟨b0, b1, b2, b3, b4, b5, b6⟩ := HB.out.x
            go_wp2_with (first
                | (go_at_call 47; (with_reducible refine (ab_same HA.out HB.out lM.out lM.out true (by rw [hRe.out]; simp)).mono ?_); rintro e wz ⟨rfl, hb⟩; have g := hb; replace HA := hide (HA.out.next g); replace bb := hide (bl_trans bb.out g); clear a0 a1 a2 a3 a4 a5 a6; clear b0 b1 b2 b3 b4 b5 b6; clear HB; clear hb g; obtain ⟨a0, a1, a2, a3, a4, a5, a6⟩ := HA.out.x)
                | (go_at_call 44; (with_reducible refine (ab_valid HA.out (by decide) vM.out lM.out true (mf_form mM.out)).mono ?_); rintro e wz ⟨rfl, hb⟩; have g := hb; replace HA := hide (HA.out.next g); replace bb := hide (bl_trans bb.out g); clear a0 a1 a2 a3 a4 a5 a6; clear hb g; obtain ⟨a0, a1, a2, a3, a4, a5, a6⟩ := HA.out.x)
                | (go_at_call 36; (with_reducible refine (ab_not HA.out (by decide) vM.out lM.out mM.out).mono ?_); rintro e wz ⟨Ao, ko, lo, co, rfl, mo, vo, po, to_, oo, zo, hb, wo, yo⟩; (try unfold atomV); (try unfold polyV); have g := bl_al hb (.cells #[.int .i64 (oppK 1), .slice Ao lo.length ko, .bool co.s, .slice co.A co.xs.length co.a, .slice co.B co.ys.length co.b, .int .i64 0, .int .i64 0] 58); have HO := hide (ab_new (kd := oppK 1) mo vo po to_ oo zo wo yo); replace HA := hide (HA.out.next g); replace bb := hide (bl_trans bb.out g); clear a0 a1 a2 a3 a4 a5 a6; clear hb g; clear mo vo po to_ oo zo wo yo; obtain ⟨a0, a1, a2, a3, a4, a5, a6⟩ := HA.out.x; obtain ⟨f0, f1, f2, f3, f4, f5, f6⟩ := HO.out.x)
                | (go_at_call 36; (with_reducible refine (ab_not HO.out (by decide) vO.out lO.out mO.out).mono ?_); rintro e wz ⟨Ae, ke, le, ce, rfl, me, ve, pe, te, oe, ze, hb, we, ye⟩; (try unfold atomV); (try unfold polyV); have g := bl_al hb (.cells #[.int .i64 (oppK (oppK 1)), .slice Ae le.length ke, .bool ce.s, .slice ce.A ce.xs.length ce.a, .slice ce.B ce.ys.length ce.b, .int .i64 0, .int .i64 0] 58); have HC := hide (ab_new (kd := (oppK (oppK 1))) me ve pe te oe ze we ye); replace HA := hide (HA.out.next g); replace HO := hide (HO.out.next g); replace bb := hide (bl_trans bb.out g); clear a0 a1 a2 a3 a4 a5 a6; clear f0 f1 f2 f3 f4 f5 f6; clear hb g; clear me ve pe te oe ze we ye; obtain ⟨a0, a1, a2, a3, a4, a5, a6⟩ := HA.out.x; obtain ⟨f0, f1, f2, f3, f4, f5, f6⟩ := HO.out.x; obtain ⟨d0, d1, d2, d3, d4, d5, d6⟩ := HC.out.x)
                | (go_at_call 47; (with_reducible refine (ab_same HC.out HA.out (by rw [scq_m1_m1]; exact lM.out) lM.out true (by rw [scq_m1_m1, m1_m1]; simp [oppK])).mono ?_); rintro e wz ⟨rfl, hb⟩; have g := hb; replace HA := hide (HA.out.next g); replace HO := hide (HO.out.next g); replace bb := hide (bl_trans bb.out g); clear a0 a1 a2 a3 a4 a5 a6; clear f0 f1 f2 f3 f4 f5 f6; clear d0 d1 d2 d3 d4 d5 d6; clear HC; clear hb g; obtain ⟨a0, a1, a2, a3, a4, a5, a6⟩ := HA.out.x; obtain ⟨f0, f1, f2, f3, f4, f5, f6⟩ := HO.out.x)
                | (go_at_call 44; (with_reducible refine (ab_valid HO.out (by decide) vO.out lO.out true (mf_form mO.out)).mono ?_); rintro e wz ⟨rfl, hb⟩; have g := hb; replace HA := hide (HA.out.next g); replace HO := hide (HO.out.next g); replace bb := hide (bl_trans bb.out g); clear a0 a1 a2 a3 a4 a5 a6; clear f0 f1 f2 f3 f4 f5 f6; clear hb g; obtain ⟨a0, a1, a2, a3, a4, a5, a6⟩ := HA.out.x; obtain ⟨f0, f1, f2, f3, f4, f5, f6⟩ := HO.out.x)
                | (go_at_call 47; (with_reducible refine (ab_same HO.out HA.out lO.out lM.out false (by simp [oppK])).mono ?_); rintro e wz ⟨rfl, hb⟩; have g := hb; replace bb := hide (bl_trans bb.out g); clear a0 a1 a2 a3 a4 a5 a6; clear f0 f1 f2 f3 f4 f5 f6; clear HA HO; clear hb g)
                | (go_at_call 35; (with_reducible refine (AW.out _).mono ?_); rintro e wz ⟨rfl, hb⟩; replace bb := hide (bl_trans bb.out hb); clear hb)
                | fail)
            go_ret
            exact ⟨rfl, bb.out⟩
    · as_aux_lemma =>
        subst h4
        have hop : Hid (oppB 2 = true) := hide (by decide)
        cases zs
        · go_upto_region 6 with (first
              | (go_at_call 48; (with_reducible refine (RD.out _).mono ?_); rintro e wz ⟨rfl, rfl⟩)
              | (go_at_call 32; (with_reducible refine (SG'.out _ bb.out).mono ?_); rintro e w3 ⟨rfl, hb⟩; replace bb := hide (bl_trans bb.out hb); replace B_ := hide (B_.out.next hb); clear hb x0 x1 x2 x3 z0 z1 z2; obtain ⟨⟨x0, x1, x2, x3⟩, hKb⟩ := B_.out; have z0 := hKb.cell (j := 0) rfl; have z1 := hKb.cell (j := 1) rfl; have z2 := hKb.cell (j := 2) rfl; clear hKb)
              | fail)
          have okK := okk.out
          have HK : Hid (Rb kk.q (w.heap.size + 1) kk w3) := hide ⟨rfl, okk.out, (PAc.out _ bb.out).2, C3.of B_.out.2⟩
          have HP := hide (HPx.out _ bb.out B_.out.1)
          have k0 := k00
          have bK := bk
          clear HPx B_ PPl PAc NG' SG' okk x0 x1 x2 x3 z0 z1 z2 k00 bk e2 e3 hnn nl nk
          have hp : (2 : Int) = 3 ∨ qs kk.q = false := .inr hzq
          have hqs := hzq
          clear hzq
          have FX := forms_facts 2 sL bq bK vL nL k0 hp
          obtain ⟨M, hM⟩ : ∃ M, fmL 2 (l.map Pt.qt) = M := ⟨_, rfl⟩
          obtain ⟨R, hR⟩ : ∃ R, fmQ 2 c.q (l.map Pt.qt) = R := ⟨_, rfl⟩
          obtain ⟨R2, hR2⟩ : ∃ R, fmQ 2 (c.q * kk.q) (scq' kk.q (l.map Pt.qt)) = R := ⟨_, rfl⟩
          obtain ⟨fS1, fS2, fA, fB, hM2, vS, lS, vM, lM, mM, lL⟩ := FX
          rw [hM] at hM2 vM lM mM
          rw [hR] at mM
          have hRR : (l.map Pt.qt ≠ [] ∨ qs kk.q = false) → R2 = R := fun h => by rw [← hR2, ← hR]; exact fmQ_mul' vL k0 hp h c.q
          have hbn' : bn = false → l.map Pt.qt ≠ [] := fun e h => by
            have h2 : l.length = 0 := by rw [← List.length_map (f := Pt.qt), h]; rfl
            rw [← hn.out] at h2
            subst h2
            rw [e] at hbn
            exact of_decide_eq_false hbn rfl
          obtain ⟨zk, hzk⟩ : ∃ x, cmpZ kk.q.num 0 = x := ⟨_, rfl⟩
          have e5 := lss_b 3 zk 0 false (by rw [← hzk, sg_lt]; exact hqs)
          have okK' := hide okK
          have SGK := hide (fun W (a : kk.At W) => (show Calls Tryz.prog 32 #[.agg #[.bool kk.s, .slice kk.A kk.xs.length kk.a, .slice kk.B kk.ys.length kk.b]] W (fun e w' => e = .returned (.int .i64 zk) ∧ Below W.heap.size W w') from (by
            have := rsign_p okK W a
            rw [hzk] at this
            exact this)))
          replace hRR := hide hRR; replace hbn' := hide hbn'; replace hM := hide hM; replace hR := hide hR; replace hR2 := hide hR2; replace hM2 := hide hM2; replace fS1 := hide fS1; replace fS2 := hide fS2; replace fA := hide fA; replace fB := hide fB; replace vS := hide vS; replace lS := hide lS; replace vM := hide vM; replace lM := hide lM; replace mM := hide mM; replace lL := hide lL; replace vL := hide vL; replace hqs := hide hqs; replace hbn := hide hbn
          clear sL bq bK nL k0 hp hzk okK
          obtain ⟨x0, x1, x2, x3⟩ := HP.out.x
          obtain ⟨z0, z1, z2⟩ := HK.out.x
          go_upto_region 11 with (first
              | (go_at_call 15; (with_reducible refine (pb_rscale HP.out okK'.out HK.out.at_ vL.out lL.out fS1.out fS2.out).mono ?_); rintro e wz ⟨As, ks, ls, cs, rfl, ms, vs, ps, ts, os, zs, hb, ws, ys⟩; (try unfold atomV); (try unfold polyV); have g := bl_al hb (.cells #[.slice As ls.length ks, .bool cs.s, .slice cs.A cs.xs.length cs.a, .slice cs.B cs.ys.length cs.b] 27); have HS := hide (pb_new (k := ks) ms vs ps ts os zs ws ys); replace HP := hide (HP.out.next g); replace HK := hide (HK.out.next g); replace bb := hide (bl_trans bb.out g); clear x0 x1 x2 x3; clear z0 z1 z2; clear hb g; clear ms vs ps ts os zs ws ys; obtain ⟨x0, x1, x2, x3⟩ := HP.out.x; obtain ⟨z0, z1, z2⟩ := HK.out.x; obtain ⟨s0, s1, s2, s3⟩ := HS.out.x)
              | (go_at_call 50; (with_reducible refine (pb_make 2 HP.out (by decide) 2 (by decide) false (by decide) vL.out lL.out fA.out hM.out hR.out).mono ?_); rintro e wz ⟨Aa, ka, la, ca, rfl, ma, va, pa, ta, oa, za, hb, wa, ya⟩; (try unfold atomV); (try unfold polyV); have g := bl_al hb (.cells #[.int .i64 2, .slice Aa la.length ka, .bool ca.s, .slice ca.A ca.xs.length ca.a, .slice ca.B ca.ys.length ca.b, .int .i64 0, .int .i64 0] 58); have HA := hide (ab_new (kd := (2)) ma va pa ta oa za wa ya); replace HP := hide (HP.out.next g); replace HK := hide (HK.out.next g); replace HS := hide (HS.out.next g); replace bb := hide (bl_trans bb.out g); clear x0 x1 x2 x3; clear z0 z1 z2; clear s0 s1 s2 s3; clear hb g; clear ma va pa ta oa za wa ya; obtain ⟨x0, x1, x2, x3⟩ := HP.out.x; obtain ⟨z0, z1, z2⟩ := HK.out.x; obtain ⟨s0, s1, s2, s3⟩ := HS.out.x)
              | (go_at_call 50; (with_reducible refine (pb_make 2 HS.out (by decide) 2 (by decide) false (by decide) vS.out lS.out fB.out hM2.out hR2.out).mono ?_); rintro e wz ⟨Ab, kb, lb, cb, rfl, mb, vb, pb, tb, ob, zb, hb, wb, yb⟩; (try unfold atomV); (try unfold polyV); have g := bl_al hb (.cells #[.int .i64 2, .slice Ab lb.length kb, .bool cb.s, .slice cb.A cb.xs.length cb.a, .slice cb.B cb.ys.length cb.b, .int .i64 0, .int .i64 0] 58); have HB := hide (ab_new (kd := (2)) mb vb pb tb ob zb wb yb); replace HP := hide (HP.out.next g); replace HK := hide (HK.out.next g); replace HA := hide (HA.out.next g); replace bb := hide (bl_trans bb.out g); clear x0 x1 x2 x3; clear z0 z1 z2; clear s0 s1 s2 s3; clear HS; clear hb g; clear mb vb pb tb ob zb wb yb; obtain ⟨x0, x1, x2, x3⟩ := HP.out.x; obtain ⟨z0, z1, z2⟩ := HK.out.x)
              | fail)
          generalize wz.alloc _ = wq at *
          go_cut [95] (fun s wx => s = .bool (false) ∧ Below wq.heap.size wq wx)
          case first =>
            cases bn
            · go_wp2_with fail
              go_meet
              exact ⟨rfl, .refl _ _⟩
            · go_wp2_with (go_at_call 32; (with_reducible refine (SGK.out _ HK.out.at_).mono ?_); rintro e wz ⟨rfl, hb⟩)
              go_meet
              exact ⟨by first | rfl | (cases zk2 <;> rfl), hb⟩
          case rest =>
            obtain ⟨rfl, g⟩ := hcut
            replace HA := hide (HA.out.next g); replace HB := hide (HB.out.next g); replace bb := hide (bl_trans bb.out g)
            clear g x0 x1 x2 x3 z0 z1 z2 HP HK SGK e5
            have hRe : Hid (R2 = R) := hide (hRR.out (.inr hqs.out))
            have fM := HA.out.fits
            have mO := hide (mf_not hop.out mM.out fM.1 fM.2).2.2.2
            have vO := hide (rvB_scq (k := -1) (by decide) vM.out)
            have lO : Hid ((scq (-1) M).length ≤ 1000) := hide (by unfold scq; rw [List.length_map]; exact lM.out)
            clear fM
            obtain ⟨a0, a1, a2, a3, a4, a5, a6⟩ := HA.out.x
            obtain ⟨b0, b1, b2, b3, b4, b5, b6⟩ := HB.out.x
            go_wp2_with (first
                | (go_at_call 47; (with_reducible refine (ab_same HA.out HB.out lM.out lM.out true (by rw [hRe.out]; simp)).mono ?_); rintro e wz ⟨rfl, hb⟩; have g := hb; replace HA := hide (HA.out.next g); replace bb := hide (bl_trans bb.out g); clear a0 a1 a2 a3 a4 a5 a6; clear b0 b1 b2 b3 b4 b5 b6; clear HB; clear hb g; obtain ⟨a0, a1, a2, a3, a4, a5, a6⟩ := HA.out.x)
                | (go_at_call 44; (with_reducible refine (ab_valid HA.out (by decide) vM.out lM.out true (mf_form mM.out)).mono ?_); rintro e wz ⟨rfl, hb⟩; have g := hb; replace HA := hide (HA.out.next g); replace bb := hide (bl_trans bb.out g); clear a0 a1 a2 a3 a4 a5 a6; clear hb g; obtain ⟨a0, a1, a2, a3, a4, a5, a6⟩ := HA.out.x)
                | (go_at_call 36; (with_reducible refine (ab_not HA.out (by decide) vM.out lM.out mM.out).mono ?_); rintro e wz ⟨Ao, ko, lo, co, rfl, mo, vo, po, to_, oo, zo, hb, wo, yo⟩; (try unfold atomV); (try unfold polyV); have g := bl_al hb (.cells #[.int .i64 (oppK 2), .slice Ao lo.length ko, .bool co.s, .slice co.A co.xs.length co.a, .slice co.B co.ys.length co.b, .int .i64 0, .int .i64 0] 58); have HO := hide (ab_new (kd := oppK 2) mo vo po to_ oo zo wo yo); replace HA := hide (HA.out.next g); replace bb := hide (bl_trans bb.out g); clear a0 a1 a2 a3 a4 a5 a6; clear hb g; clear mo vo po to_ oo zo wo yo; obtain ⟨a0, a1, a2, a3, a4, a5, a6⟩ := HA.out.x; obtain ⟨f0, f1, f2, f3, f4, f5, f6⟩ := HO.out.x)
                | (go_at_call 36; (with_reducible refine (ab_not HO.out (by decide) vO.out lO.out mO.out).mono ?_); rintro e wz ⟨Ae, ke, le, ce, rfl, me, ve, pe, te, oe, ze, hb, we, ye⟩; (try unfold atomV); (try unfold polyV); have g := bl_al hb (.cells #[.int .i64 (oppK (oppK 2)), .slice Ae le.length ke, .bool ce.s, .slice ce.A ce.xs.length ce.a, .slice ce.B ce.ys.length ce.b, .int .i64 0, .int .i64 0] 58); have HC := hide (ab_new (kd := (oppK (oppK 2))) me ve pe te oe ze we ye); replace HA := hide (HA.out.next g); replace HO := hide (HO.out.next g); replace bb := hide (bl_trans bb.out g); clear a0 a1 a2 a3 a4 a5 a6; clear f0 f1 f2 f3 f4 f5 f6; clear hb g; clear me ve pe te oe ze we ye; obtain ⟨a0, a1, a2, a3, a4, a5, a6⟩ := HA.out.x; obtain ⟨f0, f1, f2, f3, f4, f5, f6⟩ := HO.out.x; obtain ⟨d0, d1, d2, d3, d4, d5, d6⟩ := HC.out.x)
                | (go_at_call 47; (with_reducible refine (ab_same HC.out HA.out (by rw [scq_m1_m1]; exact lM.out) lM.out true (by rw [scq_m1_m1, m1_m1]; simp [oppK])).mono ?_); rintro e wz ⟨rfl, hb⟩; have g := hb; replace HA := hide (HA.out.next g); replace HO := hide (HO.out.next g); replace bb := hide (bl_trans bb.out g); clear a0 a1 a2 a3 a4 a5 a6; clear f0 f1 f2 f3 f4 f5 f6; clear d0 d1 d2 d3 d4 d5 d6; clear HC; clear hb g; obtain ⟨a0, a1, a2, a3, a4, a5, a6⟩ := HA.out.x; obtain ⟨f0, f1, f2, f3, f4, f5, f6⟩ := HO.out.x)
                | (go_at_call 44; (with_reducible refine (ab_valid HO.out (by decide) vO.out lO.out true (mf_form mO.out)).mono ?_); rintro e wz ⟨rfl, hb⟩; have g := hb; replace HA := hide (HA.out.next g); replace HO := hide (HO.out.next g); replace bb := hide (bl_trans bb.out g); clear a0 a1 a2 a3 a4 a5 a6; clear f0 f1 f2 f3 f4 f5 f6; clear hb g; obtain ⟨a0, a1, a2, a3, a4, a5, a6⟩ := HA.out.x; obtain ⟨f0, f1, f2, f3, f4, f5, f6⟩ := HO.out.x)
                | (go_at_call 47; (with_reducible refine (ab_same HO.out HA.out lO.out lM.out false (by simp [oppK])).mono ?_); rintro e wz ⟨rfl, hb⟩; have g := hb; replace bb := hide (bl_trans bb.out g); clear a0 a1 a2 a3 a4 a5 a6; clear f0 f1 f2 f3 f4 f5 f6; clear HA HO; clear hb g)
                | (go_at_call 35; (with_reducible refine (AW.out _).mono ?_); rintro e wz ⟨rfl, hb⟩; replace bb := hide (bl_trans bb.out hb); clear hb)
                | fail)
            go_ret
            exact ⟨rfl, bb.out⟩
        · go_upto_region 6 with (first
              | (go_at_call 48; (with_reducible refine (RD.out _).mono ?_); rintro e wz ⟨rfl, rfl⟩)
              | (go_at_call 32; (with_reducible refine (SG'.out _ bb.out).mono ?_); rintro e w3 ⟨rfl, hb⟩; replace bb := hide (bl_trans bb.out hb); replace B_ := hide (B_.out.next hb); clear hb x0 x1 x2 x3 z0 z1 z2; obtain ⟨⟨x0, x1, x2, x3⟩, hKb⟩ := B_.out; have z0 := hKb.cell (j := 0) rfl; have z1 := hKb.cell (j := 1) rfl; have z2 := hKb.cell (j := 2) rfl; clear hKb)
              | (go_at_call 49; (with_reducible refine (NG'.out _ bb.out).mono ?_); rintro e wn ⟨r, rfl, rq, rk, ra, hb⟩; replace bb := hide (bl_trans bb.out hb); replace B_ := hide (B_.out.next hb); clear hb x0 x1 x2 x3 z0 z1 z2; obtain ⟨⟨x0, x1, x2, x3⟩, hKb⟩ := B_.out; have z0 := hKb.cell (j := 0) rfl; have z1 := hKb.cell (j := 1) rfl; have z2 := hKb.cell (j := 2) rfl; clear hKb; have u0 := B_.out.2.free 0; have u1 := B_.out.2.free 1; have u2 := B_.out.2.free 2)
              | fail)
          have hO := off3 (w.heap.size + 1) wn (.bool r.s) (.slice r.A r.xs.length r.a) (.slice r.B r.ys.length r.b)
          have HKb : Bk (w.heap.size + 1) #[.bool r.s, .slice r.A r.xs.length r.a, .slice r.B r.ys.length r.b] 25 (((wn.setCell ⟨w.heap.size + 1, 0, none⟩ (.bool r.s)).setCell ⟨w.heap.size + 1, 1, none⟩ (.slice r.A r.xs.length r.a)).setCell ⟨w.heap.size + 1, 2, none⟩ (.slice r.B r.ys.length r.b)) := (((B_.out.2.set (.bool r.s) rfl).set (.slice r.A r.xs.length r.a) rfl).set (.slice r.B r.ys.length r.b) rfl)
          have hx : C4 w.heap.size (.slice A n kc) (.bool c.s) (.slice c.A c.xs.length c.a) (.slice c.B c.ys.length c.b) (((wn.setCell ⟨w.heap.size + 1, 0, none⟩ (.bool r.s)).setCell ⟨w.heap.size + 1, 1, none⟩ (.slice r.A r.xs.length r.a)).setCell ⟨w.heap.size + 1, 2, none⟩ (.slice r.B r.ys.length r.b)) := B_.out.1.off hO (by simp)
          have hra : r.At (((wn.setCell ⟨w.heap.size + 1, 0, none⟩ (.bool r.s)).setCell ⟨w.heap.size + 1, 1, none⟩ (.slice r.A r.xs.length r.a)).setCell ⟨w.heap.size + 1, 2, none⟩ (.slice r.B r.ys.length r.b)) := ⟨B_.out.2.sl (box_noU kk) ra.1 hO, B_.out.2.sl (box_noU kk) ra.2 hO⟩
          have hbk : Below w.heap.size w (((wn.setCell ⟨w.heap.size + 1, 0, none⟩ (.bool r.s)).setCell ⟨w.heap.size + 1, 1, none⟩ (.slice r.A r.xs.length r.a)).setCell ⟨w.heap.size + 1, 2, none⟩ (.slice r.B r.ys.length r.b)) := bb.out.trans (hO.below bb.out.size (fun b hb => by simp at hb; omega))
          clear hO ra u0 u1 u2 x0 x1 x2 x3 z0 z1 z2 B_ bb
          generalize (((wn.setCell ⟨w.heap.size + 1, 0, none⟩ (.bool r.s)).setCell ⟨w.heap.size + 1, 1, none⟩ (.slice r.A r.xs.length r.a)).setCell ⟨w.heap.size + 1, 2, none⟩ (.slice r.B r.ys.length r.b)) = wk at *
          have bb := hide hbk
          have okK := rk
          have HK : Hid (Rb r.q (w.heap.size + 1) r wk) := hide ⟨rfl, rk, hra, C3.of HKb⟩
          have HP := hide (HPx.out _ bb.out hx)
          have k0 : r.q ≠ 0 := by rw [rq]; intro e; exact k00 (by rw [← Rat.neg_neg kk.q, e]; rfl)
          have bK : bnd 8 r.q := by rw [rq]; exact bnd_neg bk
          have hqs : qs r.q = false := by rw [rq]; exact qs_neg_f hzq
          have hp : (2 : Int) = 3 ∨ qs r.q = false := .inr hqs
          clear HPx PPl PAc NG' SG' okk hra hbk hx HKb rk rq k00 bk hzq e2 e3 hnn nl nk
          have FX := forms_facts 2 sL bq bK vL nL k0 hp
          obtain ⟨M, hM⟩ : ∃ M, fmL 2 (l.map Pt.qt) = M := ⟨_, rfl⟩
          obtain ⟨R, hR⟩ : ∃ R, fmQ 2 c.q (l.map Pt.qt) = R := ⟨_, rfl⟩
          obtain ⟨R2, hR2⟩ : ∃ R, fmQ 2 (c.q * r.q) (scq' r.q (l.map Pt.qt)) = R := ⟨_, rfl⟩
          obtain ⟨fS1, fS2, fA, fB, hM2, vS, lS, vM, lM, mM, lL⟩ := FX
          rw [hM] at hM2 vM lM mM
          rw [hR] at mM
          have hRR : (l.map Pt.qt ≠ [] ∨ qs r.q = false) → R2 = R := fun h => by rw [← hR2, ← hR]; exact fmQ_mul' vL k0 hp h c.q
          have hbn' : bn = false → l.map Pt.qt ≠ [] := fun e h => by
            have h2 : l.length = 0 := by rw [← List.length_map (f := Pt.qt), h]; rfl
            rw [← hn.out] at h2
            subst h2
            rw [e] at hbn
            exact of_decide_eq_false hbn rfl
          obtain ⟨zk, hzk⟩ : ∃ x, cmpZ r.q.num 0 = x := ⟨_, rfl⟩
          have e5 := lss_b 3 zk 0 false (by rw [← hzk, sg_lt]; exact hqs)
          have okK' := hide okK
          have SGK := hide (fun W (a : r.At W) => (show Calls Tryz.prog 32 #[.agg #[.bool r.s, .slice r.A r.xs.length r.a, .slice r.B r.ys.length r.b]] W (fun e w' => e = .returned (.int .i64 zk) ∧ Below W.heap.size W w') from (by
            have := rsign_p okK W a
            rw [hzk] at this
            exact this)))
          replace hRR := hide hRR; replace hbn' := hide hbn'; replace hM := hide hM; replace hR := hide hR; replace hR2 := hide hR2; replace hM2 := hide hM2; replace fS1 := hide fS1; replace fS2 := hide fS2; replace fA := hide fA; replace fB := hide fB; replace vS := hide vS; replace lS := hide lS; replace vM := hide vM; replace lM := hide lM; replace mM := hide mM; replace lL := hide lL; replace vL := hide vL; replace hqs := hide hqs; replace hbn := hide hbn
          clear sL bq bK nL k0 hp hzk okK
          obtain ⟨x0, x1, x2, x3⟩ := HP.out.x
          obtain ⟨z0, z1, z2⟩ := HK.out.x
          go_upto_region 11 with (first
              | (go_at_call 15; (with_reducible refine (pb_rscale HP.out okK'.out HK.out.at_ vL.out lL.out fS1.out fS2.out).mono ?_); rintro e wz ⟨As, ks, ls, cs, rfl, ms, vs, ps, ts, os, zs, hb, ws, ys⟩; (try unfold atomV); (try unfold polyV); have g := bl_al hb (.cells #[.slice As ls.length ks, .bool cs.s, .slice cs.A cs.xs.length cs.a, .slice cs.B cs.ys.length cs.b] 27); have HS := hide (pb_new (k := ks) ms vs ps ts os zs ws ys); replace HP := hide (HP.out.next g); replace HK := hide (HK.out.next g); replace bb := hide (bl_trans bb.out g); clear x0 x1 x2 x3; clear z0 z1 z2; clear hb g; clear ms vs ps ts os zs ws ys; obtain ⟨x0, x1, x2, x3⟩ := HP.out.x; obtain ⟨z0, z1, z2⟩ := HK.out.x; obtain ⟨s0, s1, s2, s3⟩ := HS.out.x)
              | (go_at_call 50; (with_reducible refine (pb_make 2 HP.out (by decide) 2 (by decide) false (by decide) vL.out lL.out fA.out hM.out hR.out).mono ?_); rintro e wz ⟨Aa, ka, la, ca, rfl, ma, va, pa, ta, oa, za, hb, wa, ya⟩; (try unfold atomV); (try unfold polyV); have g := bl_al hb (.cells #[.int .i64 2, .slice Aa la.length ka, .bool ca.s, .slice ca.A ca.xs.length ca.a, .slice ca.B ca.ys.length ca.b, .int .i64 0, .int .i64 0] 58); have HA := hide (ab_new (kd := (2)) ma va pa ta oa za wa ya); replace HP := hide (HP.out.next g); replace HK := hide (HK.out.next g); replace HS := hide (HS.out.next g); replace bb := hide (bl_trans bb.out g); clear x0 x1 x2 x3; clear z0 z1 z2; clear s0 s1 s2 s3; clear hb g; clear ma va pa ta oa za wa ya; obtain ⟨x0, x1, x2, x3⟩ := HP.out.x; obtain ⟨z0, z1, z2⟩ := HK.out.x; obtain ⟨s0, s1, s2, s3⟩ := HS.out.x)
              | (go_at_call 50; (with_reducible refine (pb_make 2 HS.out (by decide) 2 (by decide) false (by decide) vS.out lS.out fB.out hM2.out hR2.out).mono ?_); rintro e wz ⟨Ab, kb, lb, cb, rfl, mb, vb, pb, tb, ob, zb, hb, wb, yb⟩; (try unfold atomV); (try unfold polyV); have g := bl_al hb (.cells #[.int .i64 2, .slice Ab lb.length kb, .bool cb.s, .slice cb.A cb.xs.length cb.a, .slice cb.B cb.ys.length cb.b, .int .i64 0, .int .i64 0] 58); have HB := hide (ab_new (kd := (2)) mb vb pb tb ob zb wb yb); replace HP := hide (HP.out.next g); replace HK := hide (HK.out.next g); replace HA := hide (HA.out.next g); replace bb := hide (bl_trans bb.out g); clear x0 x1 x2 x3; clear z0 z1 z2; clear s0 s1 s2 s3; clear HS; clear hb g; clear mb vb pb tb ob zb wb yb; obtain ⟨x0, x1, x2, x3⟩ := HP.out.x; obtain ⟨z0, z1, z2⟩ := HK.out.x)
              | fail)
          generalize wz.alloc _ = wq at *
          go_cut [95] (fun s wx => s = .bool (false) ∧ Below wq.heap.size wq wx)
          case first =>
            cases bn
            · go_wp2_with fail
              go_meet
              exact ⟨rfl, .refl _ _⟩
            · go_wp2_with (go_at_call 32; (with_reducible refine (SGK.out _ HK.out.at_).mono ?_); rintro e wz ⟨rfl, hb⟩)
              go_meet
              exact ⟨by first | rfl | (cases zk2 <;> rfl), hb⟩
          case rest =>
            obtain ⟨rfl, g⟩ := hcut
            replace HA := hide (HA.out.next g); replace HB := hide (HB.out.next g); replace bb := hide (bl_trans bb.out g)
            clear g x0 x1 x2 x3 z0 z1 z2 HP HK SGK e5
            have hRe : Hid (R2 = R) := hide (hRR.out (.inr hqs.out))
            have fM := HA.out.fits
            have mO := hide (mf_not hop.out mM.out fM.1 fM.2).2.2.2
            have vO := hide (rvB_scq (k := -1) (by decide) vM.out)
            have lO : Hid ((scq (-1) M).length ≤ 1000) := hide (by unfold scq; rw [List.length_map]; exact lM.out)
            clear fM
            obtain ⟨a0, a1, a2, a3, a4, a5, a6⟩ := HA.out.x
            obtain ⟨b0, b1, b2, b3, b4, b5, b6⟩ := HB.out.x
            go_wp2_with (first
                | (go_at_call 47; (with_reducible refine (ab_same HA.out HB.out lM.out lM.out true (by rw [hRe.out]; simp)).mono ?_); rintro e wz ⟨rfl, hb⟩; have g := hb; replace HA := hide (HA.out.next g); replace bb := hide (bl_trans bb.out g); clear a0 a1 a2 a3 a4 a5 a6; clear b0 b1 b2 b3 b4 b5 b6; clear HB; clear hb g; obtain ⟨a0, a1, a2, a3, a4, a5, a6⟩ := HA.out.x)
                | (go_at_call 44; (with_reducible refine (ab_valid HA.out (by decide) vM.out lM.out true (mf_form mM.out)).mono ?_); rintro e wz ⟨rfl, hb⟩; have g := hb; replace HA := hide (HA.out.next g); replace bb := hide (bl_trans bb.out g); clear a0 a1 a2 a3 a4 a5 a6; clear hb g; obtain ⟨a0, a1, a2, a3, a4, a5, a6⟩ := HA.out.x)
                | (go_at_call 36; (with_reducible refine (ab_not HA.out (by decide) vM.out lM.out mM.out).mono ?_); rintro e wz ⟨Ao, ko, lo, co, rfl, mo, vo, po, to_, oo, zo, hb, wo, yo⟩; (try unfold atomV); (try unfold polyV); have g := bl_al hb (.cells #[.int .i64 (oppK 2), .slice Ao lo.length ko, .bool co.s, .slice co.A co.xs.length co.a, .slice co.B co.ys.length co.b, .int .i64 0, .int .i64 0] 58); have HO := hide (ab_new (kd := oppK 2) mo vo po to_ oo zo wo yo); replace HA := hide (HA.out.next g); replace bb := hide (bl_trans bb.out g); clear a0 a1 a2 a3 a4 a5 a6; clear hb g; clear mo vo po to_ oo zo wo yo; obtain ⟨a0, a1, a2, a3, a4, a5, a6⟩ := HA.out.x; obtain ⟨f0, f1, f2, f3, f4, f5, f6⟩ := HO.out.x)
                | (go_at_call 36; (with_reducible refine (ab_not HO.out (by decide) vO.out lO.out mO.out).mono ?_); rintro e wz ⟨Ae, ke, le, ce, rfl, me, ve, pe, te, oe, ze, hb, we, ye⟩; (try unfold atomV); (try unfold polyV); have g := bl_al hb (.cells #[.int .i64 (oppK (oppK 2)), .slice Ae le.length ke, .bool ce.s, .slice ce.A ce.xs.length ce.a, .slice ce.B ce.ys.length ce.b, .int .i64 0, .int .i64 0] 58); have HC := hide (ab_new (kd := (oppK (oppK 2))) me ve pe te oe ze we ye); replace HA := hide (HA.out.next g); replace HO := hide (HO.out.next g); replace bb := hide (bl_trans bb.out g); clear a0 a1 a2 a3 a4 a5 a6; clear f0 f1 f2 f3 f4 f5 f6; clear hb g; clear me ve pe te oe ze we ye; obtain ⟨a0, a1, a2, a3, a4, a5, a6⟩ := HA.out.x; obtain ⟨f0, f1, f2, f3, f4, f5, f6⟩ := HO.out.x; obtain ⟨d0, d1, d2, d3, d4, d5, d6⟩ := HC.out.x)
                | (go_at_call 47; (with_reducible refine (ab_same HC.out HA.out (by rw [scq_m1_m1]; exact lM.out) lM.out true (by rw [scq_m1_m1, m1_m1]; simp [oppK])).mono ?_); rintro e wz ⟨rfl, hb⟩; have g := hb; replace HA := hide (HA.out.next g); replace HO := hide (HO.out.next g); replace bb := hide (bl_trans bb.out g); clear a0 a1 a2 a3 a4 a5 a6; clear f0 f1 f2 f3 f4 f5 f6; clear d0 d1 d2 d3 d4 d5 d6; clear HC; clear hb g; obtain ⟨a0, a1, a2, a3, a4, a5, a6⟩ := HA.out.x; obtain ⟨f0, f1, f2, f3, f4, f5, f6⟩ := HO.out.x)
                | (go_at_call 44; (with_reducible refine (ab_valid HO.out (by decide) vO.out lO.out true (mf_form mO.out)).mono ?_); rintro e wz ⟨rfl, hb⟩; have g := hb; replace HA := hide (HA.out.next g); replace HO := hide (HO.out.next g); replace bb := hide (bl_trans bb.out g); clear a0 a1 a2 a3 a4 a5 a6; clear f0 f1 f2 f3 f4 f5 f6; clear hb g; obtain ⟨a0, a1, a2, a3, a4, a5, a6⟩ := HA.out.x; obtain ⟨f0, f1, f2, f3, f4, f5, f6⟩ := HO.out.x)
                | (go_at_call 47; (with_reducible refine (ab_same HO.out HA.out lO.out lM.out false (by simp [oppK])).mono ?_); rintro e wz ⟨rfl, hb⟩; have g := hb; replace bb := hide (bl_trans bb.out g); clear a0 a1 a2 a3 a4 a5 a6; clear f0 f1 f2 f3 f4 f5 f6; clear HA HO; clear hb g)
                | (go_at_call 35; (with_reducible refine (AW.out _).mono ?_); rintro e wz ⟨rfl, hb⟩; replace bb := hide (bl_trans bb.out hb); clear hb)
                | fail)
            go_ret
            exact ⟨rfl, bb.out⟩
    · as_aux_lemma =>
        subst h4
        go_upto_region 6 with (first
            | (go_at_call 48; (with_reducible refine (RD.out _).mono ?_); rintro e wz ⟨rfl, rfl⟩)
            | fail)
        have okK := okk.out
        have HK : Hid (Rb kk.q (w.heap.size + 1) kk _) := hide ⟨rfl, okk.out, (PAc.out _ bb.out).2, C3.of B_.out.2⟩
        have HP := hide (HPx.out _ bb.out B_.out.1)
        have k0 := k00
        have bK := bk
        clear HPx B_ PPl PAc NG' SG' okk x0 x1 x2 x3 z0 z1 z2 k00 bk e2 e3 hnn nl nk
        have hp : (3 : Int) = 3 ∨ qs kk.q = false := .inl (by decide)
        have hqs := hzq
        clear hzq
        have FX := forms_facts 3 sL bq bK vL nL k0 hp
        obtain ⟨M, hM⟩ : ∃ M, fmL 3 (l.map Pt.qt) = M := ⟨_, rfl⟩
        obtain ⟨R, hR⟩ : ∃ R, fmQ 3 c.q (l.map Pt.qt) = R := ⟨_, rfl⟩
        obtain ⟨R2, hR2⟩ : ∃ R, fmQ 3 (c.q * kk.q) (scq' kk.q (l.map Pt.qt)) = R := ⟨_, rfl⟩
        obtain ⟨fS1, fS2, fA, fB, hM2, vS, lS, vM, lM, mM, lL⟩ := FX
        rw [hM] at hM2 vM lM mM
        rw [hR] at mM
        have hRR : (l.map Pt.qt ≠ [] ∨ qs kk.q = false) → R2 = R := fun h => by rw [← hR2, ← hR]; exact fmQ_mul' vL k0 hp h c.q
        have hbn' : bn = false → l.map Pt.qt ≠ [] := fun e h => by
          have h2 : l.length = 0 := by rw [← List.length_map (f := Pt.qt), h]; rfl
          rw [← hn.out] at h2
          subst h2
          rw [e] at hbn
          exact of_decide_eq_false hbn rfl
        obtain ⟨zk, hzk⟩ : ∃ x, cmpZ kk.q.num 0 = x := ⟨_, rfl⟩
        have e5 := lss_b 3 zk 0 zs (by rw [← hzk, sg_lt]; exact hqs)
        have okK' := hide okK
        have SGK := hide (fun W (a : kk.At W) => (show Calls Tryz.prog 32 #[.agg #[.bool kk.s, .slice kk.A kk.xs.length kk.a, .slice kk.B kk.ys.length kk.b]] W (fun e w' => e = .returned (.int .i64 zk) ∧ Below W.heap.size W w') from (by
          have := rsign_p okK W a
          rw [hzk] at this
          exact this)))
        replace hRR := hide hRR; replace hbn' := hide hbn'; replace hM := hide hM; replace hR := hide hR; replace hR2 := hide hR2; replace hM2 := hide hM2; replace fS1 := hide fS1; replace fS2 := hide fS2; replace fA := hide fA; replace fB := hide fB; replace vS := hide vS; replace lS := hide lS; replace vM := hide vM; replace lM := hide lM; replace mM := hide mM; replace lL := hide lL; replace vL := hide vL; replace hqs := hide hqs; replace hbn := hide hbn
        clear sL bq bK nL k0 hp hzk okK
        obtain ⟨x0, x1, x2, x3⟩ := HP.out.x
        obtain ⟨z0, z1, z2⟩ := HK.out.x
        go_upto_region 11 with (first
            | (go_at_call 15; (with_reducible refine (pb_rscale HP.out okK'.out HK.out.at_ vL.out lL.out fS1.out fS2.out).mono ?_); rintro e wz ⟨As, ks, ls, cs, rfl, ms, vs, ps, ts, os, zs, hb, ws, ys⟩; (try unfold atomV); (try unfold polyV); have g := bl_al hb (.cells #[.slice As ls.length ks, .bool cs.s, .slice cs.A cs.xs.length cs.a, .slice cs.B cs.ys.length cs.b] 27); have HS := hide (pb_new (k := ks) ms vs ps ts os zs ws ys); replace HP := hide (HP.out.next g); replace HK := hide (HK.out.next g); replace bb := hide (bl_trans bb.out g); clear x0 x1 x2 x3; clear z0 z1 z2; clear hb g; clear ms vs ps ts os zs ws ys; obtain ⟨x0, x1, x2, x3⟩ := HP.out.x; obtain ⟨z0, z1, z2⟩ := HK.out.x; obtain ⟨s0, s1, s2, s3⟩ := HS.out.x)
            | (go_at_call 50; (with_reducible refine (pb_make 3 HP.out (by decide) 3 (by decide) false (by decide) vL.out lL.out fA.out hM.out hR.out).mono ?_); rintro e wz ⟨Aa, ka, la, ca, rfl, ma, va, pa, ta, oa, za, hb, wa, ya⟩; (try unfold atomV); (try unfold polyV); have g := bl_al hb (.cells #[.int .i64 3, .slice Aa la.length ka, .bool ca.s, .slice ca.A ca.xs.length ca.a, .slice ca.B ca.ys.length ca.b, .int .i64 0, .int .i64 0] 58); have HA := hide (ab_new (kd := (3)) ma va pa ta oa za wa ya); replace HP := hide (HP.out.next g); replace HK := hide (HK.out.next g); replace HS := hide (HS.out.next g); replace bb := hide (bl_trans bb.out g); clear x0 x1 x2 x3; clear z0 z1 z2; clear s0 s1 s2 s3; clear hb g; clear ma va pa ta oa za wa ya; obtain ⟨x0, x1, x2, x3⟩ := HP.out.x; obtain ⟨z0, z1, z2⟩ := HK.out.x; obtain ⟨s0, s1, s2, s3⟩ := HS.out.x)
            | (go_at_call 50; (with_reducible refine (pb_make 3 HS.out (by decide) 3 (by decide) false (by decide) vS.out lS.out fB.out hM2.out hR2.out).mono ?_); rintro e wz ⟨Ab, kb, lb, cb, rfl, mb, vb, pb, tb, ob, zb, hb, wb, yb⟩; (try unfold atomV); (try unfold polyV); have g := bl_al hb (.cells #[.int .i64 3, .slice Ab lb.length kb, .bool cb.s, .slice cb.A cb.xs.length cb.a, .slice cb.B cb.ys.length cb.b, .int .i64 0, .int .i64 0] 58); have HB := hide (ab_new (kd := (3)) mb vb pb tb ob zb wb yb); replace HP := hide (HP.out.next g); replace HK := hide (HK.out.next g); replace HA := hide (HA.out.next g); replace bb := hide (bl_trans bb.out g); clear x0 x1 x2 x3; clear z0 z1 z2; clear s0 s1 s2 s3; clear HS; clear hb g; clear mb vb pb tb ob zb wb yb; obtain ⟨x0, x1, x2, x3⟩ := HP.out.x; obtain ⟨z0, z1, z2⟩ := HK.out.x)
            | fail)
        generalize wz.alloc _ = wq at *
        go_cut [95] (fun s wx => s = .bool (bn && zs) ∧ Below wq.heap.size wq wx)
        case first =>
          cases bn
          · go_wp2_with fail
            go_meet
            exact ⟨rfl, .refl _ _⟩
          · go_wp2_with (go_at_call 32; (with_reducible refine (SGK.out _ HK.out.at_).mono ?_); rintro e wz ⟨rfl, hb⟩)
            go_meet
            exact ⟨by first | rfl | (cases zk2 <;> rfl), hb⟩
        case rest =>
          obtain ⟨rfl, g⟩ := hcut
          replace HA := hide (HA.out.next g); replace HB := hide (HB.out.next g); replace bb := hide (bl_trans bb.out g)
          clear g x0 x1 x2 x3 z0 z1 z2 HP HK SGK e5
          obtain ⟨bs, hbs⟩ : ∃ b, (bn && zs) = b := ⟨_, rfl⟩
          rw [hbs]
          cases bs with
          | true =>
            go_wp2_with (go_at_call 35; (with_reducible refine (AW.out _).mono ?_); rintro e wz ⟨rfl, hb⟩; replace bb := hide (bl_trans bb.out hb); clear hb)
            go_ret
            exact ⟨rfl, bb.out⟩
          | false =>
            have hRe : Hid (R2 = R) := hide (hRR.out (by
              rcases Bool.and_eq_false_iff.1 hbs with h | h
              · exact .inl (hbn'.out h)
              · exact .inr (hqs.out.trans h)))
            obtain ⟨a0, a1, a2, a3, a4, a5, a6⟩ := HA.out.x
            obtain ⟨b0, b1, b2, b3, b4, b5, b6⟩ := HB.out.x
            go_wp2_with (first
                | (go_at_call 47; (with_reducible refine (ab_same HA.out HB.out lM.out lM.out true (by rw [hRe.out]; simp)).mono ?_); rintro e wz ⟨rfl, hb⟩; have g := hb; replace HA := hide (HA.out.next g); replace bb := hide (bl_trans bb.out g); clear a0 a1 a2 a3 a4 a5 a6; clear b0 b1 b2 b3 b4 b5 b6; clear HB; clear hb g; obtain ⟨a0, a1, a2, a3, a4, a5, a6⟩ := HA.out.x)
                | (go_at_call 44; (with_reducible refine (ab_valid HA.out (by decide) vM.out lM.out true (mf_form mM.out)).mono ?_); rintro e wz ⟨rfl, hb⟩; have g := hb; replace HA := hide (HA.out.next g); replace bb := hide (bl_trans bb.out g); clear a0 a1 a2 a3 a4 a5 a6; clear hb g; obtain ⟨a0, a1, a2, a3, a4, a5, a6⟩ := HA.out.x)
                | (go_at_call 36; (with_reducible refine (ab_nots HA.out (by decide) lM.out).mono ?_); rintro e wz ⟨rfl, hb⟩; have g := bl_al hb (.cells #[.int .i64 0, .slice none 0 0, .bool false, .slice none 0 0, .slice none 0 0, .int .i64 0, .int .i64 0] 58); replace bb := hide (bl_trans bb.out g); clear a0 a1 a2 a3 a4 a5 a6; clear HA; clear hb g)
                | (go_at_call 35; (with_reducible refine (AW.out _).mono ?_); rintro e wz ⟨rfl, hb⟩; replace bb := hide (bl_trans bb.out hb); clear hb)
                | fail)
            go_ret
            exact ⟨rfl, bb.out⟩
    · as_aux_lemma =>
        subst h4
        go_upto_region 6 with (first
            | (go_at_call 48; (with_reducible refine (RD.out _).mono ?_); rintro e wz ⟨rfl, rfl⟩)
            | fail)
        have okK := okk.out
        have HK : Hid (Rb kk.q (w.heap.size + 1) kk _) := hide ⟨rfl, okk.out, (PAc.out _ bb.out).2, C3.of B_.out.2⟩
        have HP := hide (HPx.out _ bb.out B_.out.1)
        have k0 := k00
        have bK := bk
        clear HPx B_ PPl PAc NG' SG' okk x0 x1 x2 x3 z0 z1 z2 k00 bk e2 e3 hnn nl nk
        have hp : (3 : Int) = 3 ∨ qs kk.q = false := .inl (by decide)
        have hqs := hzq
        clear hzq
        have FX := forms_facts 3 sL bq bK vL nL k0 hp
        obtain ⟨M, hM⟩ : ∃ M, fmL 3 (l.map Pt.qt) = M := ⟨_, rfl⟩
        obtain ⟨R, hR⟩ : ∃ R, fmQ 3 c.q (l.map Pt.qt) = R := ⟨_, rfl⟩
        obtain ⟨R2, hR2⟩ : ∃ R, fmQ 3 (c.q * kk.q) (scq' kk.q (l.map Pt.qt)) = R := ⟨_, rfl⟩
        obtain ⟨fS1, fS2, fA, fB, hM2, vS, lS, vM, lM, mM, lL⟩ := FX
        rw [hM] at hM2 vM lM mM
        rw [hR] at mM
        have hRR : (l.map Pt.qt ≠ [] ∨ qs kk.q = false) → R2 = R := fun h => by rw [← hR2, ← hR]; exact fmQ_mul' vL k0 hp h c.q
        have hbn' : bn = false → l.map Pt.qt ≠ [] := fun e h => by
          have h2 : l.length = 0 := by rw [← List.length_map (f := Pt.qt), h]; rfl
          rw [← hn.out] at h2
          subst h2
          rw [e] at hbn
          exact of_decide_eq_false hbn rfl
        obtain ⟨zk, hzk⟩ : ∃ x, cmpZ kk.q.num 0 = x := ⟨_, rfl⟩
        have e5 := lss_b 3 zk 0 zs (by rw [← hzk, sg_lt]; exact hqs)
        have okK' := hide okK
        have SGK := hide (fun W (a : kk.At W) => (show Calls Tryz.prog 32 #[.agg #[.bool kk.s, .slice kk.A kk.xs.length kk.a, .slice kk.B kk.ys.length kk.b]] W (fun e w' => e = .returned (.int .i64 zk) ∧ Below W.heap.size W w') from (by
          have := rsign_p okK W a
          rw [hzk] at this
          exact this)))
        replace hRR := hide hRR; replace hbn' := hide hbn'; replace hM := hide hM; replace hR := hide hR; replace hR2 := hide hR2; replace hM2 := hide hM2; replace fS1 := hide fS1; replace fS2 := hide fS2; replace fA := hide fA; replace fB := hide fB; replace vS := hide vS; replace lS := hide lS; replace vM := hide vM; replace lM := hide lM; replace mM := hide mM; replace lL := hide lL; replace vL := hide vL; replace hqs := hide hqs; replace hbn := hide hbn
        clear sL bq bK nL k0 hp hzk okK
        obtain ⟨x0, x1, x2, x3⟩ := HP.out.x
        obtain ⟨z0, z1, z2⟩ := HK.out.x
        go_upto_region 11 with (first
            | (go_at_call 15; (with_reducible refine (pb_rscale HP.out okK'.out HK.out.at_ vL.out lL.out fS1.out fS2.out).mono ?_); rintro e wz ⟨As, ks, ls, cs, rfl, ms, vs, ps, ts, os, zs, hb, ws, ys⟩; (try unfold atomV); (try unfold polyV); have g := bl_al hb (.cells #[.slice As ls.length ks, .bool cs.s, .slice cs.A cs.xs.length cs.a, .slice cs.B cs.ys.length cs.b] 27); have HS := hide (pb_new (k := ks) ms vs ps ts os zs ws ys); replace HP := hide (HP.out.next g); replace HK := hide (HK.out.next g); replace bb := hide (bl_trans bb.out g); clear x0 x1 x2 x3; clear z0 z1 z2; clear hb g; clear ms vs ps ts os zs ws ys; obtain ⟨x0, x1, x2, x3⟩ := HP.out.x; obtain ⟨z0, z1, z2⟩ := HK.out.x; obtain ⟨s0, s1, s2, s3⟩ := HS.out.x)
            | (go_at_call 50; (with_reducible refine (pb_make 4 HP.out (by decide) 3 (by decide) true (by decide) vL.out lL.out fA.out hM.out hR.out).mono ?_); rintro e wz ⟨Aa, ka, la, ca, rfl, ma, va, pa, ta, oa, za, hb, wa, ya⟩; (try unfold atomV); (try unfold polyV); have g := bl_al hb (.cells #[.int .i64 3, .slice Aa la.length ka, .bool ca.s, .slice ca.A ca.xs.length ca.a, .slice ca.B ca.ys.length ca.b, .int .i64 0, .int .i64 0] 58); have HA := hide (ab_new (kd := (3)) ma va pa ta oa za wa ya); replace HP := hide (HP.out.next g); replace HK := hide (HK.out.next g); replace HS := hide (HS.out.next g); replace bb := hide (bl_trans bb.out g); clear x0 x1 x2 x3; clear z0 z1 z2; clear s0 s1 s2 s3; clear hb g; clear ma va pa ta oa za wa ya; obtain ⟨x0, x1, x2, x3⟩ := HP.out.x; obtain ⟨z0, z1, z2⟩ := HK.out.x; obtain ⟨s0, s1, s2, s3⟩ := HS.out.x)
            | (go_at_call 50; (with_reducible refine (pb_make 4 HS.out (by decide) 3 (by decide) true (by decide) vS.out lS.out fB.out hM2.out hR2.out).mono ?_); rintro e wz ⟨Ab, kb, lb, cb, rfl, mb, vb, pb, tb, ob, zb, hb, wb, yb⟩; (try unfold atomV); (try unfold polyV); have g := bl_al hb (.cells #[.int .i64 3, .slice Ab lb.length kb, .bool cb.s, .slice cb.A cb.xs.length cb.a, .slice cb.B cb.ys.length cb.b, .int .i64 0, .int .i64 0] 58); have HB := hide (ab_new (kd := (3)) mb vb pb tb ob zb wb yb); replace HP := hide (HP.out.next g); replace HK := hide (HK.out.next g); replace HA := hide (HA.out.next g); replace bb := hide (bl_trans bb.out g); clear x0 x1 x2 x3; clear z0 z1 z2; clear s0 s1 s2 s3; clear HS; clear hb g; clear mb vb pb tb ob zb wb yb; obtain ⟨x0, x1, x2, x3⟩ := HP.out.x; obtain ⟨z0, z1, z2⟩ := HK.out.x)
            | fail)
        generalize wz.alloc _ = wq at *
        go_cut [95] (fun s wx => s = .bool (bn && zs) ∧ Below wq.heap.size wq wx)
        case first =>
          cases bn
          · go_wp2_with fail
            go_meet
            exact ⟨rfl, .refl _ _⟩
          · go_wp2_with (go_at_call 32; (with_reducible refine (SGK.out _ HK.out.at_).mono ?_); rintro e wz ⟨rfl, hb⟩)
            go_meet
            exact ⟨by first | rfl | (cases zk2 <;> rfl), hb⟩
        case rest =>
          obtain ⟨rfl, g⟩ := hcut
          replace HA := hide (HA.out.next g); replace HB := hide (HB.out.next g); replace bb := hide (bl_trans bb.out g)
          clear g x0 x1 x2 x3 z0 z1 z2 HP HK SGK e5
          obtain ⟨bs, hbs⟩ : ∃ b, (bn && zs) = b := ⟨_, rfl⟩
          rw [hbs]
          cases bs with
          | true =>
            go_wp2_with (go_at_call 35; (with_reducible refine (AW.out _).mono ?_); rintro e wz ⟨rfl, hb⟩; replace bb := hide (bl_trans bb.out hb); clear hb)
            go_ret
            exact ⟨rfl, bb.out⟩
          | false =>
            have hRe : Hid (R2 = R) := hide (hRR.out (by
              rcases Bool.and_eq_false_iff.1 hbs with h | h
              · exact .inl (hbn'.out h)
              · exact .inr (hqs.out.trans h)))
            obtain ⟨a0, a1, a2, a3, a4, a5, a6⟩ := HA.out.x
            obtain ⟨b0, b1, b2, b3, b4, b5, b6⟩ := HB.out.x
            go_wp2_with (first
                | (go_at_call 47; (with_reducible refine (ab_same HA.out HB.out lM.out lM.out true (by rw [hRe.out]; simp)).mono ?_); rintro e wz ⟨rfl, hb⟩; have g := hb; replace HA := hide (HA.out.next g); replace bb := hide (bl_trans bb.out g); clear a0 a1 a2 a3 a4 a5 a6; clear b0 b1 b2 b3 b4 b5 b6; clear HB; clear hb g; obtain ⟨a0, a1, a2, a3, a4, a5, a6⟩ := HA.out.x)
                | (go_at_call 44; (with_reducible refine (ab_valid HA.out (by decide) vM.out lM.out true (mf_form mM.out)).mono ?_); rintro e wz ⟨rfl, hb⟩; have g := hb; replace HA := hide (HA.out.next g); replace bb := hide (bl_trans bb.out g); clear a0 a1 a2 a3 a4 a5 a6; clear hb g; obtain ⟨a0, a1, a2, a3, a4, a5, a6⟩ := HA.out.x)
                | (go_at_call 36; (with_reducible refine (ab_nots HA.out (by decide) lM.out).mono ?_); rintro e wz ⟨rfl, hb⟩; have g := bl_al hb (.cells #[.int .i64 0, .slice none 0 0, .bool false, .slice none 0 0, .slice none 0 0, .int .i64 0, .int .i64 0] 58); replace bb := hide (bl_trans bb.out g); clear a0 a1 a2 a3 a4 a5 a6; clear HA; clear hb g)
                | (go_at_call 35; (with_reducible refine (AW.out _).mono ?_); rintro e wz ⟨rfl, hb⟩; replace bb := hide (bl_trans bb.out hb); clear hb)
                | fail)
            go_ret
            exact ⟨rfl, bb.out⟩
  · go_ret
    exact ⟨rfl, bb.out⟩
end Nt
end Go.Proofs.YtgimmmmpollkhaaGreat
