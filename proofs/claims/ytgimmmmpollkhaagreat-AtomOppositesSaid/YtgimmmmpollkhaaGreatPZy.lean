/-
  The law AtomOpposites.
-/
import Derived.Test.YtgimmmmpollkhaaGreatPZv
import Derived.Test.YtgimmmmpollkhaaGreatPZs
namespace Go.Proofs.YtgimmmmpollkhaaGreat
open Go.ChangeShapes Go.RowKit
namespace Nt
set_option maxRecDepth 100000
set_option linter.unusedSimpArgs false
set_option linter.unusedVariables false

/-- A number and products added to it. -/
def vsum (s : Rat) : List (Rat × Rat) → Rat
  | [] => s
  | x :: l => vsum (s + x.1 * x.2) l
theorem valF_vsum : ∀ {l : List (Rat × Rat)} {s v : Rat}, valF s l = some v → v = vsum s l
  | [], s, v, h => by injection h with h; exact h.symm
  | x :: l, s, v, h => by
    unfold valF at h
    split at h
    · split at h
      · show v = vsum (s + x.1 * x.2) l
        exact valF_vsum h
      · cases h
    · cases h
theorem vsum_mul (b : Rat) : ∀ (l : List (Rat × Rat)) (s : Rat), vsum (s * b) (l.map fun x => (x.1 * b, x.2)) = vsum s l * b
  | [], s => rfl
  | x :: l, s => by
    show vsum (s * b + x.1 * b * x.2) (l.map fun x => (x.1 * b, x.2)) = vsum (s + x.1 * x.2) l * b
    rw [← vsum_mul b l, Rat.add_mul, Rat.mul_assoc, Rat.mul_comm b, ← Rat.mul_assoc]
theorem valL_scq (o : Tells) (k : Rat) (L : List (Rat × Int)) : valL o (scq k L) = (valL o L).map fun x => (x.1 * k, x.2) := by
  unfold valL scq
  rw [List.map_map, List.map_map]
  rfl
theorem fitB_neg (q : Rat) : fitB (q * -1) = fitB q := by
  rw [mul_m1]
  unfold fitB
  rw [qn_neg, qd_neg]
theorem valF_neg : ∀ (l : List (Rat × Rat)) (s : Rat), valF (s * -1) (l.map fun x => (x.1 * -1, x.2)) = (valF s l).map (· * -1)
  | [], s => rfl
  | x :: l, s => by
    have e1 : x.1 * -1 * x.2 = x.1 * x.2 * -1 := by rw [Rat.mul_assoc, Rat.mul_comm (-1), ← Rat.mul_assoc]
    have e2 : s * -1 + x.1 * -1 * x.2 = (s + x.1 * x.2) * -1 := by rw [e1, Rat.add_mul]
    show (if fitB (x.1 * -1 * x.2) = true then (if fitB (s * -1 + x.1 * -1 * x.2) = true then valF (s * -1 + x.1 * -1 * x.2) (l.map fun x => (x.1 * -1, x.2)) else none) else none) = Option.map (· * -1) (if fitB (x.1 * x.2) = true then (if fitB (s + x.1 * x.2) = true then valF (s + x.1 * x.2) l else none) else none)
    rw [e2, e1, fitB_neg, fitB_neg, valF_neg l]
    split
    · split <;> rfl
    · rfl
theorem st_mul {k : Int} {v b : Rat} (hb : b ≠ 0) (hk : k = 1 ∨ k = 2 ∨ k = 3) (hp : k = 3 ∨ qs b = false) : stB k (v * b) = stB k v := by
  by_cases h3 : k = 3
  · subst h3
    show decide (cmpZ (v * b).num 0 = 0) = decide (cmpZ v.num 0 = 0)
    refine decide_eq_decide.2 ?_
    rw [cmpZ_0, cmpZ_0]
    constructor
    · intro h
      exact Decidable.byContradiction fun e => mul_ne e hb h
    · intro h
      rw [h, Rat.zero_mul]
  · have hq : qs b = false := by
      rcases hp with h | h
      · exact absurd h h3
      · exact h
    unfold stB
    rw [sg_mul hb hq]
theorem qs_absq (q : Rat) : qs (absq q) = false := by
  unfold absq
  split
  · rename_i h; exact qs_neg_f h
  · rename_i h; exact Bool.eq_false_iff.2 h
theorem sg_sg (q : Rat) : cmpZ ((cmpZ q.num 0 : Int) : Rat).num 0 = cmpZ q.num 0 := by
  rcases cmpZ_cases q.num with e | e | e <;> rw [e] <;> rfl
/-- What is made of a sum stands to 0 as the sum does. -/
theorem made_stands {L : List (Rat × Int)} {q v0 v1 : Rat} {t kd : Int} {o : Tells} (hv : rvB t L) (hk : kd = 1 ∨ kd = 2 ∨ kd = 3) (h1 : valF (fmQ kd q L) (valL o (fmL kd L)) = some v1) (h0 : valF q (valL o L) = some v0) : stB kd v1 = stB kd v0 := by
  rw [valF_vsum h1, valF_vsum h0]
  rcases L with _ | ⟨x, L⟩
  · show stB kd ((cmpZ q.num 0 : Int) : Rat) = stB kd q
    unfold stB
    rw [sg_sg]
  · have hx : x.1 ≠ 0 := hv.2.1
    have hb := fby_ne (n := kd) hx
    have e : fmL kd (x :: L) = scq (fby kd x.1) (x :: L) := by
      show scq' (fby kd x.1) (x :: L) = _
      unfold scq'
      rw [if_neg hb]
    rw [e, valL_scq]
    show stB kd (vsum (q * fby kd x.1) _) = _
    rw [vsum_mul, st_mul hb hk]
    by_cases h3 : kd = 3
    · exact .inl h3
    · refine .inr ?_
      unfold fby
      rw [if_neg h3]
      exact qs_absq _
theorem opp_stands {k : Int} (hk : oppB k = true) (v : Rat) : stB (oppK k) (v * -1) = !stB k v := by
  have e : cmpZ (v * -1).num 0 = -cmpZ v.num 0 := by
    rw [mul_m1, Rat.neg_num]
    unfold cmpZ
    split <;> split <;> (try split) <;> (try split) <;> omega
  rcases oppB_of hk with rfl | rfl
  · show decide (cmpZ (v * -1).num 0 < 0) = !decide (cmpZ v.num 0 ≤ 0)
    rw [e]
    by_cases h : cmpZ v.num 0 ≤ 0
    · rw [decide_eq_true h, decide_eq_false (by omega)]; rfl
    · rw [decide_eq_false h, decide_eq_true (by omega)]; rfl
  · show decide (cmpZ (v * -1).num 0 ≤ 0) = !decide (cmpZ v.num 0 < 0)
    rw [e]
    by_cases h : cmpZ v.num 0 < 0
    · rw [decide_eq_true h, decide_eq_false (by omega)]; rfl
    · rw [decide_eq_false h, decide_eq_true (by omega)]; rfl
theorem look_ok {lb : List Pt} (h : ∀ p ∈ lb, p.ok = true) (t : Int) : oOk (lookT lb) t = true := by
  induction lb with
  | nil =>
    show validQ false [] [1] = true
    decide +kernel
  | cons p l ih =>
    unfold oOk lookT
    by_cases e : p.t = t
    · rw [if_pos e]; exact h p (by simp)
    · rw [if_neg e]; exact ih fun q hq => h q (by simp [hq])
theorem look_bnd {lb : List Pt} (h : ∀ p ∈ lb, bnd 8 p.q) (t : Int) : bnd 8 (oq (lookT lb) t) := by
  induction lb with
  | nil =>
    have e : oq (lookT []) t = 0 := by
      show qmk false (val []) (val [1]) = 0
      decide +kernel
    rw [e]
    exact ⟨by decide +kernel, by decide +kernel⟩
  | cons p l ih =>
    unfold oq lookT
    by_cases e : p.t = t
    · rw [if_pos e]; exact h p (by simp)
    · rw [if_neg e]; exact ih fun q hq => h q (by simp [hq])
theorem told_o9 (B : Option Addr) (lb : List Pt) (kb g : Nat) (t : Int) (W : World) (hl : Bl W B lb) (hf : ∀ p ∈ lb, p.Few) (hn : lb.length ≤ 1000) (hg : W.cell? ⟨g, 0, none⟩ = some (.slice B lb.length kb)) :
    Calls Tryz.prog 66 #[.func (.func 51) #[] #[.pointer (some ⟨g, 0, none⟩)], .int .i64 t] W (TellO (lookT lb) t W) :=
  told_any _ _ _ _ _ entersO9 fun W2 b => tellO9_any B lb kb g t W2 (hl.next b) hf hn (cell_next b hg)
/-- Two ends of Holds. -/
theorem HoR.two {w : World} {k : Int} {o : Tells} {L : List (Rat × Int)} {q : Rat} {e : Ending} {w' : World} (h : HoR w k o L q e w') (hall : ∀ t, oOk o t = true) :
    Below w.heap.size w w' ∧ ((∃ v, valF q (valL o L) = some v ∧ e = .returned (.tuple #[.bool (stB k v), .int .i64 0])) ∨ (valF q (valL o L) = none ∧ e = .returned (.tuple #[.bool false, .int .i64 4]))) := by
  refine ⟨h.1, ?_⟩
  rcases h.2 with ⟨_, v, h1, h2⟩ | ⟨_, h1, h2⟩ | ⟨h1, _⟩
  · exact .inl ⟨v, h1, h2⟩
  · exact .inr ⟨h1, h2⟩
  · have : L.all (fun x => oOk o x.2) = true := List.all_eq_true.2 fun x _ => hall _
    rw [h1] at this
    cases this
theorem HoR.sym {w : World} {k : Int} {o : Tells} {L : List (Rat × Int)} {q : Rat} {e : Ending} {w' : World} (h : HoR w k o L q e w') (hall : ∀ t, oOk o t = true) :
    ∃ (x : Bool) (n : Int), e = .returned (.tuple #[.bool x, .int .i64 n]) ∧ ((n = 0 ∧ ∃ v, valF q (valL o L) = some v ∧ stB k v = x) ∨ n = 4) ∧ Below w.heap.size w w' := by
  obtain ⟨hb, h⟩ := h.two hall
  rcases h with ⟨v, h1, rfl⟩ | ⟨_, rfl⟩
  · exact ⟨_, 0, rfl, .inl ⟨rfl, v, h1, rfl⟩, hb⟩
  · exact ⟨_, 4, rfl, .inr rfl, hb⟩
def VaOk (w : World) (q : Rat) (e : Ending) (w' : World) : Prop := ∃ r : Pt, e = .returned (.tuple #[.agg #[.bool r.s, .slice r.A r.xs.length r.a, .slice r.B r.ys.length r.b], .int .i64 0]) ∧ r.q = q ∧ r.Ok ∧ r.At w' ∧ Below w.heap.size w w'
theorem VaR.yes {w : World} {o : Tells} {L : List (Rat × Int)} {q v : Rat} {e : Ending} {w' : World} (h : VaR w o L q e w') (hall : ∀ t, oOk o t = true) (hv : valF q (valL o L) = some v) : VaOk w v e w' := by
  rcases h.cases with ⟨r, h1, _, h2, h3, h4, h5⟩ | ⟨_, _, h1, _⟩ | ⟨_, h1, _⟩
  · rw [hv] at h2
    injection h2 with h2
    exact ⟨r, h1, h2.symm, h3, h4, h5⟩
  · rw [hv] at h1
    cases h1
  · have : L.all (fun x => oOk o x.2) = true := List.all_eq_true.2 fun x _ => hall _
    rw [h1] at this
    cases this
theorem VaR.nope {w : World} {o : Tells} {L : List (Rat × Int)} {q : Rat} {e : Ending} {w' : World} (h : VaR w o L q e w') (hall : ∀ t, oOk o t = true) (hv : valF q (valL o L) = none) : e = .returned (.tuple #[.agg #[.bool false, .slice none 0 0, .slice none 0 0], .int .i64 4]) ∧ Below w.heap.size w w' := by
  rcases h.cases with ⟨r, _, _, h2, _⟩ | ⟨h1, _, _, h2⟩ | ⟨_, h1, _⟩
  · rw [hv] at h2
    cases h2
  · exact ⟨h1, h2⟩
  · have : L.all (fun x => oOk o x.2) = true := List.all_eq_true.2 fun x _ => hall _
    rw [h1] at this
    cases this
/-- The opposite holds just where one does not. -/
theorem ab_opp {kd : Int} {M : List (Rat × Int)} {R v1 : Rat} {g : Nat} {A : Option Addr} {n k : Nat} {l : List Pt} {c : Pt} {W : World} (h : Ab (oppK kd) (scq (-1) M) (R * -1) g A n k l c W) (hk : oppB kd = true) (vM : rvB (-1) M) (lM : M.length ≤ 1000) (mM : Mf kd M R) (fM : ∀ x ∈ M, fitq x.1) (fR : fitq R) (F : FuncId) (cs : Array Value) (o : Tells) (hall : ∀ t, oOk o t = true) (hv : valF R (valL o M) = some v1) (x : Bool) (hx : stB kd v1 = x)
    (hT : ∀ t, (∃ x ∈ scq (-1) M, x.2 = t) → ∀ W', Below W.heap.size W W' → Calls Tryz.prog 66 #[.func (.func F) #[] cs, .int .i64 t] W' (TellO o t W')) :
    Calls Tryz.prog 40 #[.agg #[.int .i64 (oppK kd), .slice A n k, .bool c.s, .slice c.A c.xs.length c.a, .slice c.B c.ys.length c.b, .int .i64 0, .int .i64 0], .func (.func F) #[] cs] W fun e w' => e = .returned (.tuple #[.bool (!x), .int .i64 0]) ∧ Below W.heap.size W w' := by
  have hkk : oppK kd = 1 ∨ oppK kd = 2 ∨ oppK kd = 3 := by rcases oppB_of hk with rfl | rfl <;> decide
  have m4 := (mf_not hk mM fM fR).2.2.2
  refine (ab_holds h (decide_eq_true hkk) (rvB_scq (by decide) vM) (by unfold scq; rw [List.length_map]; exact lM) m4.1 F cs o hT).mono fun e w' hH => ?_
  obtain ⟨hb, hH⟩ := hH.two hall
  have e1 : valF (R * -1) (valL o (scq (-1) M)) = some (v1 * -1) := by
    rw [valL_scq, valF_neg, hv]
    rfl
  rw [e1] at hH
  rcases hH with ⟨v, h1, rfl⟩ | ⟨h1, _⟩
  · injection h1 with h1
    subst h1
    rw [opp_stands hk, hx]
    exact ⟨rfl, hb⟩
  · cases h1
def W02b (w : World) (c : Pt) (A : Option Addr) (n kc : Nat) (B : Option Addr) (m kb : Nat) : World := (w.alloc (.cells #[.slice A n kc, .bool c.s, .slice c.A c.xs.length c.a, .slice c.B c.ys.length c.b] 27)).alloc (.cells #[.slice B m kb] 59)
/-- The boxes of a sum and of bindings. -/
def Bb (w : World) (c : Pt) (A : Option Addr) (n kc : Nat) (B : Option Addr) (m kb : Nat) (W : World) : Prop := C4 w.heap.size (.slice A n kc) (.bool c.s) (.slice c.A c.xs.length c.a) (.slice c.B c.ys.length c.b) W ∧ W.cell? ⟨w.heap.size + 1, 0, none⟩ = some (.slice B m kb)
theorem Bb.z {w : World} {c : Pt} {A : Option Addr} {n kc : Nat} {B : Option Addr} {m kb : Nat} {W : World} (h : Bb w c A n kc B m kb W) : W.cell? ⟨w.heap.size + 1, 0, none⟩ = some (.slice B m kb) := h.2
theorem Bb.start (w : World) (c : Pt) (A : Option Addr) (n kc : Nat) (B : Option Addr) (m kb : Nat) : Bb w c A n kc B m kb (W02b w c A n kc B m kb) ∧ Below w.heap.size w (W02b w c A n kc B m kb) := by
  have h1 : Bk w.heap.size #[.slice A n kc, .bool c.s, .slice c.A c.xs.length c.a, .slice c.B c.ys.length c.b] 27 (W02b w c A n kc B m kb) := (Bk.new _ _ w).al _
  have h2 : Bk (w.heap.size + 1) #[.slice B m kb] 59 (W02b w c A n kc B m kb) := Bk.new1 _ _ w _
  exact ⟨⟨C4.of h1, h2.cell rfl⟩, bl_al (bl_al (.refl _ _) _) _⟩
theorem Bb.next {w : World} {c : Pt} {A : Option Addr} {n kc : Nat} {B : Option Addr} {m kb : Nat} {W W' : World} (h : Bb w c A n kc B m kb W) (hb : Below W.heap.size W W') : Bb w c A n kc B m kb W' := ⟨h.1.next hb, cell_next hb h.2⟩

set_option maxHeartbeats 16000000 in
theorem opposites_law (A B : Option Addr) (l lb : List Pt) (kc kb : Nat) (c : Pt) (kind : Int) (w : World) (hl : Pl w A l) (hc : c.At w) (hbl : Bl w B lb) (ll : ∀ p ∈ l, Limbs p.xs ∧ Limbs p.ys) (lc : Limbs c.xs ∧ Limbs c.ys) (llb : ∀ p ∈ lb, Limbs p.xs ∧ Limbs p.ys) (nl : l.length ≤ kc) (nk : kc ≤ maxLen) (ml : lb.length ≤ kb) (mk : kb ≤ maxLen) :
    Calls Tryz.prog 7 #[polyV A l.length kc c, .int .i64 kind, .slice B lb.length kb] w fun e w' => e = .returned (.bool true) ∧ Below w.heap.size w w' := by
  have AW := hide (fun W => awake9_any W)
  have hmx : maxLen ≤ 9223372036854775807 := by unfold maxLen; decide
  have P1 := hide (fun W (b : Below w.heap.size w W) => pfew_any A l kc c W (hl.next b) (by omega))
  have P2 := hide (fun W (b : Below w.heap.size w W) => bfew9_any B lb kb W (hbl.next b) (by omega))
  obtain ⟨v1, hv1⟩ : ∃ v, (pvB (-1) l && c.ok) = v := ⟨_, rfl⟩
  have V1 := hide (fun (h : l.length ≤ 10 ∧ (∀ p ∈ l, p.few8 = true) ∧ c.few8 = true) W (b : Below w.heap.size w W) => rvalidP_any A l kc c W (hl.next b) (hc.next b) (fun p hp => few_o (ll p hp) (h.2.1 p hp)) (few_o lc h.2.2) (by omega) v1 hv1)
  have RD := hide (fun W => (show Calls Tryz.prog 48 #[.int .i64 kind, .int .i64 4] W (fun e w' => e = .returned (.int .i64 (kind % 4)) ∧ W = w') from round_any kind 4 (by decide) (by decide) W))
  have st := Bb.start w c A l.length kc B lb.length kb
  obtain ⟨bb, B_⟩ : Hid (Below w.heap.size w (W02b w c A l.length kc B lb.length kb)) ∧ Hid (Bb w c A l.length kc B lb.length kb (W02b w c A l.length kc B lb.length kb)) := ⟨hide st.2, hide st.1⟩
  clear st
  have PPl := hide (fun W (b : Below w.heap.size w W) => hl.next b)
  have PBl := hide (fun W (b : Below w.heap.size w W) => hbl.next b)
  have PAc := hide (fun W (b : Below w.heap.size w W) => hc.next b)
  replace ll := hide ll; replace lc := hide lc; replace llb := hide llb
  replace hv1 := hide hv1
  replace nl := hide nl
  clear hl hc hbl
  obtain ⟨n, hn⟩ : ∃ n, n = l.length := ⟨_, rfl⟩
  obtain ⟨m, hm⟩ : ∃ n, n = lb.length := ⟨_, rfl⟩
  unfold polyV at *
  unfold W02b at bb B_
  rw [← hn] at P1 V1 bb B_ nl ⊢
  rw [← hm] at P2 bb B_ ml ⊢
  replace hn := hide hn; replace hm := hide hm
  obtain ⟨⟨x0, x1, x2, x3⟩, z0⟩ := B_.out
  go_enter Tryz.func7, Tryz.ntmps7
  go_upto_region 3 with (first
    | (go_at_call 8; (with_reducible refine (P1.out _ bb.out).mono ?_); rintro e w1 ⟨r1, rfl, hb, h1⟩; replace bb := hide (bl_trans bb.out hb); replace B_ := hide (B_.out.next hb); clear hb x0 x1 x2 x3 z0; obtain ⟨⟨x0, x1, x2, x3⟩, z0⟩ := B_.out; cases r1 <;> replace h1 := hide h1)
    | (go_at_call 26; (with_reducible refine (V1.out (h1.out (by first | rfl | trivial)) _ bb.out).mono ?_); rintro e w1 ⟨rfl, hb⟩; replace bb := hide (bl_trans bb.out hb); replace B_ := hide (B_.out.next hb); clear hb x0 x1 x2 x3 z0; obtain ⟨⟨x0, x1, x2, x3⟩, z0⟩ := B_.out; cases v1)
    | (go_at_call 34; (with_reducible refine (P2.out _ bb.out).mono ?_); rintro e w1 ⟨r2, rfl, hb, h2⟩; replace bb := hide (bl_trans bb.out hb); replace B_ := hide (B_.out.next hb); clear hb x0 x1 x2 x3 z0; obtain ⟨⟨x0, x1, x2, x3⟩, z0⟩ := B_.out; cases r2 <;> replace h2 := hide h2)
    | (go_at_call 35; (with_reducible refine (AW.out _).mono ?_); rintro e w1 ⟨rfl, hb⟩; replace bb := hide (bl_trans bb.out hb); clear hb)
    | fail)
  · go_ret
    exact ⟨rfl, bb.out⟩
  · go_ret
    exact ⟨rfl, bb.out⟩
  · go_ret
    exact ⟨rfl, bb.out⟩
  have H1 := h1.out (by first | rfl | trivial)
  have H2 := h2.out (by first | rfl | trivial)
  have hv1' := hv1.out
  rw [Bool.and_eq_true] at hv1'
  have okl := pvB_ok hv1'.1 (fun p hp => few_o (ll.out p hp) (H1.2.1 p hp))
  have okc := ok_of (few_o lc.out H1.2.2) hv1'.2
  have vL := (pvB_rvB okl (-1)).1 hv1'.1
  have sL := small_o okl H1.2.1
  have bq := bnd_o okc H1.2.2
  have nL : (l.map Pt.qt).length ≤ 10 := by rw [List.length_map, ← hn.out]; exact H1.1
  have fb : ∀ p ∈ lb, p.Few := fun p hp => few_o (llb.out p hp) (H2.2 p hp)
  have f8 := hide H2.2
  have m12 : m ≤ 12 := H2.1
  replace vL := hide vL; replace sL := hide sL; replace bq := hide bq; replace nL := hide nL; replace fb := hide fb; replace okl := hide okl; replace okc := hide okc; replace hv1 := hide hv1'.1
  clear H1 H2 hv1' P1 P2 V1 ll lc llb h1 h2
  go_wp2_with fail
  go_loopw [7] (fun ix wr => ∃ i : Nat, i ≤ m ∧ ix = .int .i64 (i : Int) ∧ (∀ p ∈ lb.take i, p.ok = true) ∧ Below w.heap.size w wr ∧ Bb w c A n kc B m kb wr) (fun ix _ => m - (intOf ix).toNat)
  case atStart => exact ⟨0, Nat.zero_le _, rfl, (fun p hp => by simp at hp), bb.out, B_.out⟩
  case round =>
    obtain ⟨i, hi, rfl, hall, hbr, hBr⟩ := hrel
    clear x0 x1 x2 x3 z0
    obtain ⟨⟨x0, x1, x2, x3⟩, z0⟩ := hBr
    by_cases hlt : i < m
    · have hil : i < lb.length := by rw [← hm.out]; exact hlt
      obtain ⟨g1, o1, rfl, ⟨c0, c1, c2, c3⟩, hat⟩ := (PBl.out wr hbr).get hil
      have hs := hide (take_part hil)
      have hfw := hide (fb.out lb[i] (List.getElem_mem hil))
      have hlt' : (i : Int) < (m : Int) := by omega
      have hB2 := hide (show Bb w c A n kc (some ⟨g1, o1, none⟩) m kb wr from ⟨⟨x0, x1, x2, x3⟩, z0⟩)
      replace hbr := hide hbr; replace hall := hide hall; replace hat := hide hat
      clear PBl PPl PAc fb f8 B_ bb okl okc
      generalize lb[i] = p at *
      obtain ⟨b, hbk⟩ : ∃ b, p.ok = b := ⟨_, rfl⟩
      have hVd := hide (rvalidQ_any p.s p.A p.B p.a p.b p.xs p.ys wr hat.out.1 hat.out.2 hfw.out.lx hfw.out.ly hfw.out.mx hfw.out.my b hbk)
      replace hbk := hide hbk
      clear hat hfw
      cases b with
      | false =>
        go_wp2_with (first
          | (go_at_call 30; (with_reducible refine hVd.out.mono ?_); rintro e w1 ⟨rfl, hb⟩; have b1 := hide (bl_trans hbr.out hb); clear hb)
          | (go_at_call 35; (with_reducible refine (AW.out _).mono ?_); rintro e w2 ⟨rfl, hb⟩; have b2 := hide (bl_trans b1.out hb); clear hb)
          | fail)
        go_ret
        exact ⟨rfl, b2.out⟩
      | true =>
        go_wp2_with (go_at_call 30; (with_reducible refine hVd.out.mono ?_); rintro e w1 ⟨rfl, hb⟩; have b1 := hide (bl_trans hbr.out hb); have hB3 := hide (hB2.out.next hb); clear hb)
        go_roundw
        case rel =>
          refine ⟨i + 1, hlt, by go_num, fun q hq => ?_, b1.out, hB3.out⟩
          rw [hs.out] at hq
          rcases List.mem_append.1 hq with hq | hq
          · exact hall.out q hq
          · simp at hq
            subst hq
            exact hbk.out
        case measure => simp only [intOf]; omega
    · have hin : i = m := by omega
      have hok : ∀ p ∈ lb, p.ok = true := fun p hp => hall p (by rw [hin, hm.out, List.take_length]; exact hp)
      have ho := hide (look_ok hok)
      have hob := hide (look_bnd (fun p hp => bnd_o (ok_of (fb.out p hp) (hok p hp)) (f8.out p hp)))
      have hlt' : ¬ (i : Int) < (m : Int) := by omega
      have B2 := hide (show Bb w c A n kc B m kb wr from ⟨⟨x0, x1, x2, x3⟩, z0⟩)
      have b2 := hide hbr
      clear hall hbr B_ bb hok f8
      have bb := b2
      have B_ := B2
      clear b2 B2
      obtain ⟨nn, hnn⟩ : ∃ x, 1 + kind % 4 = x := ⟨_, rfl⟩
      have hn4 : nn = 1 ∨ nn = 2 ∨ nn = 3 ∨ nn = 4 := by omega
      have e3 := add_z 3 1 (kind % 4) nn hnn (by omega) (by omega)
      have HPx := hide (fun W (b : Below w.heap.size w W) (x : C4 w.heap.size (.slice A n kc) (.bool c.s) (.slice c.A c.xs.length c.a) (.slice c.B c.ys.length c.b) W) => (show Pb (l.map Pt.qt) c.q w.heap.size A n kc l c W from ⟨hn.out, rfl, rfl, PPl.out _ b, PAc.out _ b, okl.out, okc.out, by rw [← hn.out]; exact nl.out, nk, x⟩))
      have TLD := hide (fun (t : Int) W (b : Below w.heap.size w W) (hg : W.cell? ⟨w.heap.size + 1, 0, none⟩ = some (.slice B m kb)) => (show Calls Tryz.prog 66 #[.func (.func 51) #[] #[.pointer (some ⟨w.heap.size + 1, 0, none⟩)], .int .i64 t] W (TellO (lookT lb) t W) from told_o9 B lb kb (w.heap.size + 1) t W (PBl.out _ b) fb.out (by rw [← hm.out]; omega) (by rw [← hm.out]; exact hg)))
      have BND := hide (fun W (b : Below w.heap.size w W) => (show Calls Tryz.prog 42 #[.slice B m kb] W (BndO lb W) from by
        have := binds9_any B lb kb W (PBl.out _ b) (by rw [← hm.out]; omega)
        rw [← hm.out] at this
        exact this))
      have VAL := hide (fun R cr W (b : Below w.heap.size w W) (hR : Bl W R lb) => (show Calls Tryz.prog 22 #[.agg #[.slice A n kc, .bool c.s, .slice c.A c.xs.length c.a, .slice c.B c.ys.length c.b], .slice R lb.length cr] W (VaR W (lookT lb) (l.map Pt.qt) c.q) from by
        have := rvalue_ok A R l lb kc cr c W (PPl.out _ b) (PAc.out _ b) okl.out okc.out hv1.out (by rw [← hn.out]; have := nL.out; rw [List.length_map, ← hn.out] at this; omega) hR fb.out (by rw [← hm.out]; omega) (fun p hp _ => fitB_bnd (bnd_mul (sL.out p.qt (List.mem_map_of_mem hp)) (hob.out p.t)) (by decide))
        unfold polyV at this
        rw [← hn.out] at this
        exact this))
      obtain ⟨o, hoo⟩ : ∃ o, lookT lb = o := ⟨_, rfl⟩
      rw [hoo] at ho TLD VAL
      clear hob hoo fb okl okc hv1 nl nk PBl PPl PAc hn hm
      rcases hn4 with h4 | h4 | h4 | h4
      · as_aux_lemma =>
          subst h4
          have FX := fm_small (n := 1) sL.out bq.out vL.out
          obtain ⟨M, hM⟩ : ∃ M, fmL 1 (l.map Pt.qt) = M := ⟨_, rfl⟩
          obtain ⟨R, hR⟩ : ∃ R, fmQ 1 c.q (l.map Pt.qt) = R := ⟨_, rfl⟩
          have fA := hide FX.2.2
          have vM := hide (by rw [← hM]; exact rvB_fmL vL.out : rvB (-1) M)
          have lM : Hid (M.length ≤ 1000) := hide (by rw [← hM]; have := fmL_len 1 (l.map Pt.qt); have := nL.out; omega)
          have lL : Hid ((l.map Pt.qt).length ≤ 1000) := hide (by have := nL.out; omega)
          have mM := hide (by rw [← hM, ← hR]; exact mf_made vL.out c.q : Mf 1 M R)
          have HP := hide (HPx.out _ bb.out B_.out.1)
          have MS := hide (fun (v0 v1 : Rat) (h1 : valF R (valL o M) = some v1) (h0 : valF c.q (valL o (l.map Pt.qt)) = some v0) => (show stB 1 v1 = stB 1 v0 from by
            rw [← hM, ← hR] at h1
            exact made_stands vL.out (by decide) h1 h0))
          replace hM := hide hM; replace hR := hide hR
          clear FX HPx hnn sL bq nL
          go_upto_region 12 with (first
            | (go_at_call 48; (with_reducible refine (RD.out _).mono ?_); rintro e wz ⟨rfl, rfl⟩)
            | (go_at_call 50; (with_reducible refine (pb_make 1 HP.out (by decide) 1 (by decide) false (by decide) vL.out lL.out fA.out hM.out hR.out).mono ?_); rintro e wz ⟨Aa, ka, la, ca, rfl, ma, va, pa, ta, oa, za, hb, wa, ya⟩; unfold atomV; have hb := bl_al hb (.cells #[.int .i64 1, .slice Aa la.length ka, .bool ca.s, .slice ca.A ca.xs.length ca.a, .slice ca.B ca.ys.length ca.b, .int .i64 0, .int .i64 0] 58); have HA := hide (ab_new (kd := (1)) ma va pa ta oa za wa ya); replace bb := hide (bl_trans bb.out hb); replace B_ := hide (B_.out.next hb); clear hb x0 x1 x2 x3 z0; obtain ⟨⟨x0, x1, x2, x3⟩, z0⟩ := B_.out; clear ma va pa ta oa za wa ya; clear HP; obtain ⟨a0, a1, a2, a3, a4, a5, a6⟩ := HA.out.x)
            | (go_at_call 40; (with_reducible refine (ab_holds HA.out (by decide) vM.out lM.out (mf_form mM.out) 51 #[.pointer (some ⟨w.heap.size + 1, 0, none⟩)] o (fun t _ W' b => TLD.out t W' (bl_trans bb.out b) (cell_next b B_.out.z))).mono ?_); rintro e wz hH; obtain ⟨xb, e1_, rfl, hc1, hb⟩ := hH.sym ho.out; replace HA := hide (HA.out.next hb); replace bb := hide (bl_trans bb.out hb); replace B_ := hide (B_.out.next hb); clear hb x0 x1 x2 x3 z0; obtain ⟨⟨x0, x1, x2, x3⟩, z0⟩ := B_.out; clear a0 a1 a2 a3 a4 a5 a6 hH; replace hc1 := hide hc1)
            | fail)
          generalize hwq : wz = wq at *
          clear hwq
          have SS := hide (fun W (b : Below wq.heap.size wq W) => (show (W.cell? ⟨w.heap.size, 0, none⟩ = some (.slice A n kc) ∧ W.cell? ⟨w.heap.size, 1, none⟩ = some (.bool c.s) ∧ W.cell? ⟨w.heap.size, 2, none⟩ = some (.slice c.A c.xs.length c.a) ∧ W.cell? ⟨w.heap.size, 3, none⟩ = some (.slice c.B c.ys.length c.b)) ∧ W.cell? ⟨w.heap.size + 1, 0, none⟩ = some (.slice B m kb) from (B_.out.next b)))
          clear x0 x1 x2 x3 z0
          go_cut [15, 16] (fun sa sb wx => ∃ (gv : Nat) (e2 : Int), sa = .pointer (some ⟨gv, 0, none⟩) ∧ sb = .int .i64 e2 ∧ ((e2 = 0 ∧ ∃ (r : Pt) (v0 : Rat), valF c.q (valL o (l.map Pt.qt)) = some v0 ∧ Rb v0 gv r wx) ∨ e2 = 4) ∧ Below wq.heap.size wq wx)
          case first =>
            clear HA vM lM mM MS TLD hM hR fA
            rcases hvq : valF c.q (valL o (l.map Pt.qt)) with _ | q0
            · have VALn := hide (fun R cr W (b : Below w.heap.size w W) (hR : Bl W R lb) => (VAL.out R cr W b hR).mono fun e w' h => h.nope ho.out hvq)
              clear VAL
              go_region_held3 (fun W => (W.cell? ⟨w.heap.size, 0, none⟩ = some (.slice A n kc) ∧ W.cell? ⟨w.heap.size, 1, none⟩ = some (.bool c.s) ∧ W.cell? ⟨w.heap.size, 2, none⟩ = some (.slice c.A c.xs.length c.a) ∧ W.cell? ⟨w.heap.size, 3, none⟩ = some (.slice c.B c.ys.length c.b)) ∧ W.cell? ⟨w.heap.size + 1, 0, none⟩ = some (.slice B m kb))
                (first
                  | (with_reducible exact SS.out _ (ka0 wq))
                  | (with_reducible exact SS.out _ (ka1 wq _))
                  | (with_reducible exact SS.out _ be)
                  | (with_reducible exact SS.out _ (bl_al be _))
                  | (with_reducible exact SS.out _ (be.trans ((off3 _ _ _ _ _).below be.size (fun b hb => by simp at hb; omega))))
                  | (with_reducible exact SS.out _ bc)
                  | (with_reducible exact SS.out _ (bl_al bc _))
                  | fail)
                (first
                  | (go_at_call 42; (with_reducible refine (BND.out _ ?hw).mono ?_); (case hw => first | (with_reducible exact bl_trans bb.out (ka0 wq)) | (with_reducible exact bl_trans bb.out (ka1 wq _)) | fail); rintro e wa ⟨R_, cr, rfl, hR_, hb⟩; have bc : Below wq.heap.size wq wa := (by first | (with_reducible exact bl_trans (ka0 wq) hb) | (with_reducible exact bl_trans (ka1 wq _) hb)); have n1 := bc.size; (first | (have hZ : Hid (Bk wq.heap.size #[.bool false, .slice none 0 0, .slice none 0 0] 25 wa) := by with_reducible exact hide (zd hb)) | skip); replace hR_ := hide hR_; clear hb)
                  | (go_at_call 22; (with_reducible refine (VALn.out R_ cr _ ?h1 ?h2).mono ?_); (case h1 => first | (with_reducible exact bl_trans bb.out bc) | (with_reducible exact bl_trans bb.out (bl_al bc _)) | fail); (case h2 => first | (with_reducible exact hR_.out) | (with_reducible exact hR_.out.next (bl_al (.refl _ _) _)) | fail); rintro e wd ⟨rfl, hb⟩; have g2 : Below wa.heap.size wa wd := (by first | (with_reducible exact hb) | (with_reducible exact bl_one hb)); have be := bl_trans bc g2; have n3 := be.size; have n4 := g2.size; (first | (have hZ3 := hide (hZ.out.next g2)) | (have hZ3 : Hid (Bk wa.heap.size #[.bool false, .slice none 0 0, .slice none 0 0] 25 wd) := by with_reducible exact hide (z1 hb)) | skip); (first | (have v0 := hZ3.out.cell (j := 0) rfl; have v1 := hZ3.out.cell (j := 1) rfl; have v2 := hZ3.out.cell (j := 2) rfl; have u0 := hZ3.out.free 0; have u1 := hZ3.out.free 1; have u2 := hZ3.out.free 2) | skip); clear hb)
                  | fail)
              all_goals
                go_wp2_with fail
                go_meet
                first
                  | with_reducible refine ⟨wd.heap.size, 4, rfl, rfl, ?_, bl_al be _⟩
                    exact .inr rfl
                  | with_reducible refine ⟨_, 4, rfl, rfl, ?_, be.trans ((off3 _ _ _ _ _).below be.size (fun b hb => by simp at hb; omega))⟩
                    exact .inr rfl
                  | fail
            · have VALy := hide (fun R cr W (b : Below w.heap.size w W) (hR : Bl W R lb) => (VAL.out R cr W b hR).mono fun e w' h => h.yes ho.out hvq)
              clear VAL
              unfold VaOk at VALy
              go_region_held3 (fun W => (W.cell? ⟨w.heap.size, 0, none⟩ = some (.slice A n kc) ∧ W.cell? ⟨w.heap.size, 1, none⟩ = some (.bool c.s) ∧ W.cell? ⟨w.heap.size, 2, none⟩ = some (.slice c.A c.xs.length c.a) ∧ W.cell? ⟨w.heap.size, 3, none⟩ = some (.slice c.B c.ys.length c.b)) ∧ W.cell? ⟨w.heap.size + 1, 0, none⟩ = some (.slice B m kb))
                (first
                  | (with_reducible exact SS.out _ (ka0 wq))
                  | (with_reducible exact SS.out _ (ka1 wq _))
                  | (with_reducible exact SS.out _ be)
                  | (with_reducible exact SS.out _ (bl_al be _))
                  | (with_reducible exact SS.out _ (be.trans ((off3 _ _ _ _ _).below be.size (fun b hb => by simp at hb; omega))))
                  | (with_reducible exact SS.out _ bc)
                  | (with_reducible exact SS.out _ (bl_al bc _))
                  | fail)
                (first
                  | (go_at_call 42; (with_reducible refine (BND.out _ ?hw).mono ?_); (case hw => first | (with_reducible exact bl_trans bb.out (ka0 wq)) | (with_reducible exact bl_trans bb.out (ka1 wq _)) | fail); rintro e wa ⟨R_, cr, rfl, hR_, hb⟩; have bc : Below wq.heap.size wq wa := (by first | (with_reducible exact bl_trans (ka0 wq) hb) | (with_reducible exact bl_trans (ka1 wq _) hb)); have n1 := bc.size; (first | (have hZ : Hid (Bk wq.heap.size #[.bool false, .slice none 0 0, .slice none 0 0] 25 wa) := by with_reducible exact hide (zd hb)) | skip); replace hR_ := hide hR_; clear hb)
                  | (go_at_call 22; (with_reducible refine (VALy.out R_ cr _ ?h1 ?h2).mono ?_); (case h1 => first | (with_reducible exact bl_trans bb.out bc) | (with_reducible exact bl_trans bb.out (bl_al bc _)) | fail); (case h2 => first | (with_reducible exact hR_.out) | (with_reducible exact hR_.out.next (bl_al (.refl _ _) _)) | fail); rintro e wd ⟨r, rfl, hval, hrok, hra, hb⟩; have g2 : Below wa.heap.size wa wd := (by first | (with_reducible exact hb) | (with_reducible exact bl_one hb)); have be := bl_trans bc g2; have n3 := be.size; have n4 := g2.size; (first | (have hZ3 := hide (hZ.out.next g2)) | (have hZ3 : Hid (Bk wa.heap.size #[.bool false, .slice none 0 0, .slice none 0 0] 25 wd) := by with_reducible exact hide (z1 hb)) | skip); (first | (have v0 := hZ3.out.cell (j := 0) rfl; have v1 := hZ3.out.cell (j := 1) rfl; have v2 := hZ3.out.cell (j := 2) rfl; have u0 := hZ3.out.free 0; have u1 := hZ3.out.free 1; have u2 := hZ3.out.free 2) | skip); clear hb)
                  | fail)
              all_goals
                go_wp2_with fail
                go_meet
                first
                  | with_reducible refine ⟨wd.heap.size, 0, rfl, rfl, ?_, bl_al be _⟩
                    exact .inl ⟨rfl, r, q0, hvq, rb_new hval hrok hra⟩
                  | with_reducible refine ⟨_, 0, rfl, rfl, ?_, be.trans ((off3 _ _ _ _ _).below be.size (fun b hb => by simp at hb; omega))⟩
                    exact .inl ⟨rfl, r, q0, hvq, hval, hrok, at_offR hZ3.out hra (off3 _ _ _ _ _), C3.of (((hZ3.out.set (.bool r.s) rfl).set (.slice r.A r.xs.length r.a) rfl).set (.slice r.B r.ys.length r.b) rfl)⟩
                  | fail
          case rest =>
            obtain ⟨gv, e2_, rfl, rfl, hc2, b12⟩ := hcut
            replace HA := hide (HA.out.next b12)
            have bb := hide (bl_trans bb.out b12)
            have B_ := hide (B_.out.next b12)
            clear SS b12 BND VAL
            have hc1' := hc1.out
            clear hc1
            rcases hc1' with ⟨rfl, v1, hv1, hx1⟩ | rfl
            rcases hc2 with ⟨rfl, r, v0, hv0, HR⟩ | rfl
            · have hst := MS.out v0 v1 hv1 hv0
              obtain ⟨s, hs⟩ : ∃ s, cmpZ v0.num 0 = s := ⟨_, rfl⟩
              obtain ⟨b1, hb1⟩ : ∃ b, decide (s ≤ 0) = b := ⟨_, rfl⟩
              obtain ⟨b2, hb2⟩ : ∃ b, decide (s < 0) = b := ⟨_, rfl⟩
              obtain ⟨b3, hb3⟩ : ∃ b, decide (s = 0) = b := ⟨_, rfl⟩
              have e4 := leq_b 3 s 0 b1 hb1
              have e5 := lss_b 3 s 0 b2 hb2
              have e6 := eql_b 3 s 0 b3 hb3
              have e7 := neq_b 3 s 0 (!b3) (by rw [← hb3]; simp)
              have hxx : b1 = xb := by
                rw [← hx1, hst]
                unfold stB
                rw [hs]
                exact hb1.symm
              subst hxx
              have SGV := hide (fun W (b : Below wc.heap.size wc W) => (show Calls Tryz.prog 32 #[.agg #[.bool r.s, .slice r.A r.xs.length r.a, .slice r.B r.ys.length r.b]] W (fun e w' => e = .returned (.int .i64 s) ∧ Below W.heap.size W w') from (by
                have := rsign_p HR.ok W (HR.at_.next b)
                rw [HR.hq, hs] at this
                exact this)))
              obtain ⟨r0, r1, r2⟩ := HR.x
              replace hv1 := hide hv1; replace hx1 := hide hx1
              have fM := hide HA.out.fits
              clear hst hs hb1 hb2 hb3 MS HR hv0
              obtain ⟨a0, a1, a2, a3, a4, a5, a6⟩ := HA.out.x
              go_upto_region 17 with (first
                | (go_at_call 32; (with_reducible refine (SGV.out _ (.refl _ _)).mono ?_); rintro e wz ⟨rfl, hb⟩; replace HA := hide (HA.out.next hb); replace bb := hide (bl_trans bb.out hb); replace B_ := hide (B_.out.next hb); clear hb r0 r1 r2 SGV a0 a1 a2 a3 a4 a5 a6; have hq4 := ka0' wz (.cells #[.bool b1, .bool b2, .bool b3, .bool (!b3)] 4); replace HA := hide (HA.out.next hq4); replace bb := hide (bl_trans bb.out hq4); replace B_ := hide (B_.out.next hq4); clear hq4; obtain ⟨a0, a1, a2, a3, a4, a5, a6⟩ := HA.out.x)
                | fail)
              generalize wz.alloc (.cells #[.bool b1, .bool b2, .bool b3, .bool (!b3)] 4) = w17 at *
              cases b1
              all_goals
                go_wp2_with (first
                  | (go_at_call 36; (with_reducible refine (ab_not HA.out (by decide) vM.out lM.out mM.out).mono ?_); rintro e wz ⟨Ae, ke, le, ce, rfl, me, ve, pe, te, oe, ze, hb, we, ye⟩; unfold atomV; have hb := bl_al hb (.cells #[.int .i64 (oppK 1), .slice Ae le.length ke, .bool ce.s, .slice ce.A ce.xs.length ce.a, .slice ce.B ce.ys.length ce.b, .int .i64 0, .int .i64 0] 58); have HO := hide (ab_new (kd := (oppK 1)) me ve pe te oe ze we ye); replace bb := hide (bl_trans bb.out hb); replace B_ := hide (B_.out.next hb); clear me ve pe te oe ze we ye; clear hb HA a0 a1 a2 a3 a4 a5 a6; obtain ⟨f0, f1, f2, f3, f4, f5, f6⟩ := HO.out.x)
                  | (go_at_call 40; (with_reducible refine (ab_opp HO.out (by decide) vM.out lM.out mM.out fM.out.1 fM.out.2 51 #[.pointer (some ⟨w.heap.size + 1, 0, none⟩)] o ho.out hv1.out _ hx1.out (fun t _ W' b => TLD.out t W' (bl_trans bb.out b) (cell_next b B_.out.z))).mono ?_); rintro e wz ⟨rfl, hb⟩; replace bb := hide (bl_trans bb.out hb); clear hb f0 f1 f2 f3 f4 f5 f6 HO)
                  | (go_at_call 35; (with_reducible refine (AW.out _).mono ?_); rintro e wz ⟨rfl, hb⟩; replace bb := hide (bl_trans bb.out hb); clear hb)
                  | fail)
                go_ret
                exact ⟨rfl, bb.out⟩
            · clear hv1 hx1 MS
              go_wp2_with (go_at_call 35; (with_reducible refine (AW.out _).mono ?_); rintro e wz ⟨rfl, hb⟩; replace bb := hide (bl_trans bb.out hb); clear hb)
              go_ret
              exact ⟨rfl, bb.out⟩
            · clear hc2 MS
              go_wp2_with (go_at_call 35; (with_reducible refine (AW.out _).mono ?_); rintro e wz ⟨rfl, hb⟩; replace bb := hide (bl_trans bb.out hb); clear hb)
              go_ret
              exact ⟨rfl, bb.out⟩
      · as_aux_lemma =>
          subst h4
          have FX := fm_small (n := 2) sL.out bq.out vL.out
          obtain ⟨M, hM⟩ : ∃ M, fmL 2 (l.map Pt.qt) = M := ⟨_, rfl⟩
          obtain ⟨R, hR⟩ : ∃ R, fmQ 2 c.q (l.map Pt.qt) = R := ⟨_, rfl⟩
          have fA := hide FX.2.2
          have vM := hide (by rw [← hM]; exact rvB_fmL vL.out : rvB (-1) M)
          have lM : Hid (M.length ≤ 1000) := hide (by rw [← hM]; have := fmL_len 2 (l.map Pt.qt); have := nL.out; omega)
          have lL : Hid ((l.map Pt.qt).length ≤ 1000) := hide (by have := nL.out; omega)
          have mM := hide (by rw [← hM, ← hR]; exact mf_made vL.out c.q : Mf 2 M R)
          have HP := hide (HPx.out _ bb.out B_.out.1)
          have MS := hide (fun (v0 v1 : Rat) (h1 : valF R (valL o M) = some v1) (h0 : valF c.q (valL o (l.map Pt.qt)) = some v0) => (show stB 2 v1 = stB 2 v0 from by
            rw [← hM, ← hR] at h1
            exact made_stands vL.out (by decide) h1 h0))
          replace hM := hide hM; replace hR := hide hR
          clear FX HPx hnn sL bq nL
          go_upto_region 12 with (first
            | (go_at_call 48; (with_reducible refine (RD.out _).mono ?_); rintro e wz ⟨rfl, rfl⟩)
            | (go_at_call 50; (with_reducible refine (pb_make 2 HP.out (by decide) 2 (by decide) false (by decide) vL.out lL.out fA.out hM.out hR.out).mono ?_); rintro e wz ⟨Aa, ka, la, ca, rfl, ma, va, pa, ta, oa, za, hb, wa, ya⟩; unfold atomV; have hb := bl_al hb (.cells #[.int .i64 2, .slice Aa la.length ka, .bool ca.s, .slice ca.A ca.xs.length ca.a, .slice ca.B ca.ys.length ca.b, .int .i64 0, .int .i64 0] 58); have HA := hide (ab_new (kd := (2)) ma va pa ta oa za wa ya); replace bb := hide (bl_trans bb.out hb); replace B_ := hide (B_.out.next hb); clear hb x0 x1 x2 x3 z0; obtain ⟨⟨x0, x1, x2, x3⟩, z0⟩ := B_.out; clear ma va pa ta oa za wa ya; clear HP; obtain ⟨a0, a1, a2, a3, a4, a5, a6⟩ := HA.out.x)
            | (go_at_call 40; (with_reducible refine (ab_holds HA.out (by decide) vM.out lM.out (mf_form mM.out) 51 #[.pointer (some ⟨w.heap.size + 1, 0, none⟩)] o (fun t _ W' b => TLD.out t W' (bl_trans bb.out b) (cell_next b B_.out.z))).mono ?_); rintro e wz hH; obtain ⟨xb, e1_, rfl, hc1, hb⟩ := hH.sym ho.out; replace HA := hide (HA.out.next hb); replace bb := hide (bl_trans bb.out hb); replace B_ := hide (B_.out.next hb); clear hb x0 x1 x2 x3 z0; obtain ⟨⟨x0, x1, x2, x3⟩, z0⟩ := B_.out; clear a0 a1 a2 a3 a4 a5 a6 hH; replace hc1 := hide hc1)
            | fail)
          generalize hwq : wz = wq at *
          clear hwq
          have SS := hide (fun W (b : Below wq.heap.size wq W) => (show (W.cell? ⟨w.heap.size, 0, none⟩ = some (.slice A n kc) ∧ W.cell? ⟨w.heap.size, 1, none⟩ = some (.bool c.s) ∧ W.cell? ⟨w.heap.size, 2, none⟩ = some (.slice c.A c.xs.length c.a) ∧ W.cell? ⟨w.heap.size, 3, none⟩ = some (.slice c.B c.ys.length c.b)) ∧ W.cell? ⟨w.heap.size + 1, 0, none⟩ = some (.slice B m kb) from (B_.out.next b)))
          clear x0 x1 x2 x3 z0
          go_cut [15, 16] (fun sa sb wx => ∃ (gv : Nat) (e2 : Int), sa = .pointer (some ⟨gv, 0, none⟩) ∧ sb = .int .i64 e2 ∧ ((e2 = 0 ∧ ∃ (r : Pt) (v0 : Rat), valF c.q (valL o (l.map Pt.qt)) = some v0 ∧ Rb v0 gv r wx) ∨ e2 = 4) ∧ Below wq.heap.size wq wx)
          case first =>
            clear HA vM lM mM MS TLD hM hR fA
            rcases hvq : valF c.q (valL o (l.map Pt.qt)) with _ | q0
            · have VALn := hide (fun R cr W (b : Below w.heap.size w W) (hR : Bl W R lb) => (VAL.out R cr W b hR).mono fun e w' h => h.nope ho.out hvq)
              clear VAL
              go_region_held3 (fun W => (W.cell? ⟨w.heap.size, 0, none⟩ = some (.slice A n kc) ∧ W.cell? ⟨w.heap.size, 1, none⟩ = some (.bool c.s) ∧ W.cell? ⟨w.heap.size, 2, none⟩ = some (.slice c.A c.xs.length c.a) ∧ W.cell? ⟨w.heap.size, 3, none⟩ = some (.slice c.B c.ys.length c.b)) ∧ W.cell? ⟨w.heap.size + 1, 0, none⟩ = some (.slice B m kb))
                (first
                  | (with_reducible exact SS.out _ (ka0 wq))
                  | (with_reducible exact SS.out _ (ka1 wq _))
                  | (with_reducible exact SS.out _ be)
                  | (with_reducible exact SS.out _ (bl_al be _))
                  | (with_reducible exact SS.out _ (be.trans ((off3 _ _ _ _ _).below be.size (fun b hb => by simp at hb; omega))))
                  | (with_reducible exact SS.out _ bc)
                  | (with_reducible exact SS.out _ (bl_al bc _))
                  | fail)
                (first
                  | (go_at_call 42; (with_reducible refine (BND.out _ ?hw).mono ?_); (case hw => first | (with_reducible exact bl_trans bb.out (ka0 wq)) | (with_reducible exact bl_trans bb.out (ka1 wq _)) | fail); rintro e wa ⟨R_, cr, rfl, hR_, hb⟩; have bc : Below wq.heap.size wq wa := (by first | (with_reducible exact bl_trans (ka0 wq) hb) | (with_reducible exact bl_trans (ka1 wq _) hb)); have n1 := bc.size; (first | (have hZ : Hid (Bk wq.heap.size #[.bool false, .slice none 0 0, .slice none 0 0] 25 wa) := by with_reducible exact hide (zd hb)) | skip); replace hR_ := hide hR_; clear hb)
                  | (go_at_call 22; (with_reducible refine (VALn.out R_ cr _ ?h1 ?h2).mono ?_); (case h1 => first | (with_reducible exact bl_trans bb.out bc) | (with_reducible exact bl_trans bb.out (bl_al bc _)) | fail); (case h2 => first | (with_reducible exact hR_.out) | (with_reducible exact hR_.out.next (bl_al (.refl _ _) _)) | fail); rintro e wd ⟨rfl, hb⟩; have g2 : Below wa.heap.size wa wd := (by first | (with_reducible exact hb) | (with_reducible exact bl_one hb)); have be := bl_trans bc g2; have n3 := be.size; have n4 := g2.size; (first | (have hZ3 := hide (hZ.out.next g2)) | (have hZ3 : Hid (Bk wa.heap.size #[.bool false, .slice none 0 0, .slice none 0 0] 25 wd) := by with_reducible exact hide (z1 hb)) | skip); (first | (have v0 := hZ3.out.cell (j := 0) rfl; have v1 := hZ3.out.cell (j := 1) rfl; have v2 := hZ3.out.cell (j := 2) rfl; have u0 := hZ3.out.free 0; have u1 := hZ3.out.free 1; have u2 := hZ3.out.free 2) | skip); clear hb)
                  | fail)
              all_goals
                go_wp2_with fail
                go_meet
                first
                  | with_reducible refine ⟨wd.heap.size, 4, rfl, rfl, ?_, bl_al be _⟩
                    exact .inr rfl
                  | with_reducible refine ⟨_, 4, rfl, rfl, ?_, be.trans ((off3 _ _ _ _ _).below be.size (fun b hb => by simp at hb; omega))⟩
                    exact .inr rfl
                  | fail
            · have VALy := hide (fun R cr W (b : Below w.heap.size w W) (hR : Bl W R lb) => (VAL.out R cr W b hR).mono fun e w' h => h.yes ho.out hvq)
              clear VAL
              unfold VaOk at VALy
              go_region_held3 (fun W => (W.cell? ⟨w.heap.size, 0, none⟩ = some (.slice A n kc) ∧ W.cell? ⟨w.heap.size, 1, none⟩ = some (.bool c.s) ∧ W.cell? ⟨w.heap.size, 2, none⟩ = some (.slice c.A c.xs.length c.a) ∧ W.cell? ⟨w.heap.size, 3, none⟩ = some (.slice c.B c.ys.length c.b)) ∧ W.cell? ⟨w.heap.size + 1, 0, none⟩ = some (.slice B m kb))
                (first
                  | (with_reducible exact SS.out _ (ka0 wq))
                  | (with_reducible exact SS.out _ (ka1 wq _))
                  | (with_reducible exact SS.out _ be)
                  | (with_reducible exact SS.out _ (bl_al be _))
                  | (with_reducible exact SS.out _ (be.trans ((off3 _ _ _ _ _).below be.size (fun b hb => by simp at hb; omega))))
                  | (with_reducible exact SS.out _ bc)
                  | (with_reducible exact SS.out _ (bl_al bc _))
                  | fail)
                (first
                  | (go_at_call 42; (with_reducible refine (BND.out _ ?hw).mono ?_); (case hw => first | (with_reducible exact bl_trans bb.out (ka0 wq)) | (with_reducible exact bl_trans bb.out (ka1 wq _)) | fail); rintro e wa ⟨R_, cr, rfl, hR_, hb⟩; have bc : Below wq.heap.size wq wa := (by first | (with_reducible exact bl_trans (ka0 wq) hb) | (with_reducible exact bl_trans (ka1 wq _) hb)); have n1 := bc.size; (first | (have hZ : Hid (Bk wq.heap.size #[.bool false, .slice none 0 0, .slice none 0 0] 25 wa) := by with_reducible exact hide (zd hb)) | skip); replace hR_ := hide hR_; clear hb)
                  | (go_at_call 22; (with_reducible refine (VALy.out R_ cr _ ?h1 ?h2).mono ?_); (case h1 => first | (with_reducible exact bl_trans bb.out bc) | (with_reducible exact bl_trans bb.out (bl_al bc _)) | fail); (case h2 => first | (with_reducible exact hR_.out) | (with_reducible exact hR_.out.next (bl_al (.refl _ _) _)) | fail); rintro e wd ⟨r, rfl, hval, hrok, hra, hb⟩; have g2 : Below wa.heap.size wa wd := (by first | (with_reducible exact hb) | (with_reducible exact bl_one hb)); have be := bl_trans bc g2; have n3 := be.size; have n4 := g2.size; (first | (have hZ3 := hide (hZ.out.next g2)) | (have hZ3 : Hid (Bk wa.heap.size #[.bool false, .slice none 0 0, .slice none 0 0] 25 wd) := by with_reducible exact hide (z1 hb)) | skip); (first | (have v0 := hZ3.out.cell (j := 0) rfl; have v1 := hZ3.out.cell (j := 1) rfl; have v2 := hZ3.out.cell (j := 2) rfl; have u0 := hZ3.out.free 0; have u1 := hZ3.out.free 1; have u2 := hZ3.out.free 2) | skip); clear hb)
                  | fail)
              all_goals
                go_wp2_with fail
                go_meet
                first
                  | with_reducible refine ⟨wd.heap.size, 0, rfl, rfl, ?_, bl_al be _⟩
                    exact .inl ⟨rfl, r, q0, hvq, rb_new hval hrok hra⟩
                  | with_reducible refine ⟨_, 0, rfl, rfl, ?_, be.trans ((off3 _ _ _ _ _).below be.size (fun b hb => by simp at hb; omega))⟩
                    exact .inl ⟨rfl, r, q0, hvq, hval, hrok, at_offR hZ3.out hra (off3 _ _ _ _ _), C3.of (((hZ3.out.set (.bool r.s) rfl).set (.slice r.A r.xs.length r.a) rfl).set (.slice r.B r.ys.length r.b) rfl)⟩
                  | fail
          case rest =>
            obtain ⟨gv, e2_, rfl, rfl, hc2, b12⟩ := hcut
            replace HA := hide (HA.out.next b12)
            have bb := hide (bl_trans bb.out b12)
            have B_ := hide (B_.out.next b12)
            clear SS b12 BND VAL
            have hc1' := hc1.out
            clear hc1
            rcases hc1' with ⟨rfl, v1, hv1, hx1⟩ | rfl
            rcases hc2 with ⟨rfl, r, v0, hv0, HR⟩ | rfl
            · have hst := MS.out v0 v1 hv1 hv0
              obtain ⟨s, hs⟩ : ∃ s, cmpZ v0.num 0 = s := ⟨_, rfl⟩
              obtain ⟨b1, hb1⟩ : ∃ b, decide (s ≤ 0) = b := ⟨_, rfl⟩
              obtain ⟨b2, hb2⟩ : ∃ b, decide (s < 0) = b := ⟨_, rfl⟩
              obtain ⟨b3, hb3⟩ : ∃ b, decide (s = 0) = b := ⟨_, rfl⟩
              have e4 := leq_b 3 s 0 b1 hb1
              have e5 := lss_b 3 s 0 b2 hb2
              have e6 := eql_b 3 s 0 b3 hb3
              have e7 := neq_b 3 s 0 (!b3) (by rw [← hb3]; simp)
              have hxx : b2 = xb := by
                rw [← hx1, hst]
                unfold stB
                rw [hs]
                exact hb2.symm
              subst hxx
              have SGV := hide (fun W (b : Below wc.heap.size wc W) => (show Calls Tryz.prog 32 #[.agg #[.bool r.s, .slice r.A r.xs.length r.a, .slice r.B r.ys.length r.b]] W (fun e w' => e = .returned (.int .i64 s) ∧ Below W.heap.size W w') from (by
                have := rsign_p HR.ok W (HR.at_.next b)
                rw [HR.hq, hs] at this
                exact this)))
              obtain ⟨r0, r1, r2⟩ := HR.x
              replace hv1 := hide hv1; replace hx1 := hide hx1
              have fM := hide HA.out.fits
              clear hst hs hb1 hb2 hb3 MS HR hv0
              obtain ⟨a0, a1, a2, a3, a4, a5, a6⟩ := HA.out.x
              go_upto_region 17 with (first
                | (go_at_call 32; (with_reducible refine (SGV.out _ (.refl _ _)).mono ?_); rintro e wz ⟨rfl, hb⟩; replace HA := hide (HA.out.next hb); replace bb := hide (bl_trans bb.out hb); replace B_ := hide (B_.out.next hb); clear hb r0 r1 r2 SGV a0 a1 a2 a3 a4 a5 a6; have hq4 := ka0' wz (.cells #[.bool b1, .bool b2, .bool b3, .bool (!b3)] 4); replace HA := hide (HA.out.next hq4); replace bb := hide (bl_trans bb.out hq4); replace B_ := hide (B_.out.next hq4); clear hq4; obtain ⟨a0, a1, a2, a3, a4, a5, a6⟩ := HA.out.x)
                | fail)
              generalize wz.alloc (.cells #[.bool b1, .bool b2, .bool b3, .bool (!b3)] 4) = w17 at *
              cases b2
              all_goals
                go_wp2_with (first
                  | (go_at_call 36; (with_reducible refine (ab_not HA.out (by decide) vM.out lM.out mM.out).mono ?_); rintro e wz ⟨Ae, ke, le, ce, rfl, me, ve, pe, te, oe, ze, hb, we, ye⟩; unfold atomV; have hb := bl_al hb (.cells #[.int .i64 (oppK 2), .slice Ae le.length ke, .bool ce.s, .slice ce.A ce.xs.length ce.a, .slice ce.B ce.ys.length ce.b, .int .i64 0, .int .i64 0] 58); have HO := hide (ab_new (kd := (oppK 2)) me ve pe te oe ze we ye); replace bb := hide (bl_trans bb.out hb); replace B_ := hide (B_.out.next hb); clear me ve pe te oe ze we ye; clear hb HA a0 a1 a2 a3 a4 a5 a6; obtain ⟨f0, f1, f2, f3, f4, f5, f6⟩ := HO.out.x)
                  | (go_at_call 40; (with_reducible refine (ab_opp HO.out (by decide) vM.out lM.out mM.out fM.out.1 fM.out.2 51 #[.pointer (some ⟨w.heap.size + 1, 0, none⟩)] o ho.out hv1.out _ hx1.out (fun t _ W' b => TLD.out t W' (bl_trans bb.out b) (cell_next b B_.out.z))).mono ?_); rintro e wz ⟨rfl, hb⟩; replace bb := hide (bl_trans bb.out hb); clear hb f0 f1 f2 f3 f4 f5 f6 HO)
                  | (go_at_call 35; (with_reducible refine (AW.out _).mono ?_); rintro e wz ⟨rfl, hb⟩; replace bb := hide (bl_trans bb.out hb); clear hb)
                  | fail)
                go_ret
                exact ⟨rfl, bb.out⟩
            · clear hv1 hx1 MS
              go_wp2_with (go_at_call 35; (with_reducible refine (AW.out _).mono ?_); rintro e wz ⟨rfl, hb⟩; replace bb := hide (bl_trans bb.out hb); clear hb)
              go_ret
              exact ⟨rfl, bb.out⟩
            · clear hc2 MS
              go_wp2_with (go_at_call 35; (with_reducible refine (AW.out _).mono ?_); rintro e wz ⟨rfl, hb⟩; replace bb := hide (bl_trans bb.out hb); clear hb)
              go_ret
              exact ⟨rfl, bb.out⟩
      · as_aux_lemma =>
          subst h4
          have FX := fm_small (n := 3) sL.out bq.out vL.out
          obtain ⟨M, hM⟩ : ∃ M, fmL 3 (l.map Pt.qt) = M := ⟨_, rfl⟩
          obtain ⟨R, hR⟩ : ∃ R, fmQ 3 c.q (l.map Pt.qt) = R := ⟨_, rfl⟩
          have fA := hide FX.2.2
          have vM := hide (by rw [← hM]; exact rvB_fmL vL.out : rvB (-1) M)
          have lM : Hid (M.length ≤ 1000) := hide (by rw [← hM]; have := fmL_len 3 (l.map Pt.qt); have := nL.out; omega)
          have lL : Hid ((l.map Pt.qt).length ≤ 1000) := hide (by have := nL.out; omega)
          have mM := hide (by rw [← hM, ← hR]; exact mf_made vL.out c.q : Mf 3 M R)
          have HP := hide (HPx.out _ bb.out B_.out.1)
          have MS := hide (fun (v0 v1 : Rat) (h1 : valF R (valL o M) = some v1) (h0 : valF c.q (valL o (l.map Pt.qt)) = some v0) => (show stB 3 v1 = stB 3 v0 from by
            rw [← hM, ← hR] at h1
            exact made_stands vL.out (by decide) h1 h0))
          replace hM := hide hM; replace hR := hide hR
          clear FX HPx hnn sL bq nL
          go_upto_region 12 with (first
            | (go_at_call 48; (with_reducible refine (RD.out _).mono ?_); rintro e wz ⟨rfl, rfl⟩)
            | (go_at_call 50; (with_reducible refine (pb_make 3 HP.out (by decide) 3 (by decide) false (by decide) vL.out lL.out fA.out hM.out hR.out).mono ?_); rintro e wz ⟨Aa, ka, la, ca, rfl, ma, va, pa, ta, oa, za, hb, wa, ya⟩; unfold atomV; have hb := bl_al hb (.cells #[.int .i64 3, .slice Aa la.length ka, .bool ca.s, .slice ca.A ca.xs.length ca.a, .slice ca.B ca.ys.length ca.b, .int .i64 0, .int .i64 0] 58); have HA := hide (ab_new (kd := (3)) ma va pa ta oa za wa ya); replace bb := hide (bl_trans bb.out hb); replace B_ := hide (B_.out.next hb); clear hb x0 x1 x2 x3 z0; obtain ⟨⟨x0, x1, x2, x3⟩, z0⟩ := B_.out; clear ma va pa ta oa za wa ya; clear HP; obtain ⟨a0, a1, a2, a3, a4, a5, a6⟩ := HA.out.x)
            | (go_at_call 40; (with_reducible refine (ab_holds HA.out (by decide) vM.out lM.out (mf_form mM.out) 51 #[.pointer (some ⟨w.heap.size + 1, 0, none⟩)] o (fun t _ W' b => TLD.out t W' (bl_trans bb.out b) (cell_next b B_.out.z))).mono ?_); rintro e wz hH; obtain ⟨xb, e1_, rfl, hc1, hb⟩ := hH.sym ho.out; replace HA := hide (HA.out.next hb); replace bb := hide (bl_trans bb.out hb); replace B_ := hide (B_.out.next hb); clear hb x0 x1 x2 x3 z0; obtain ⟨⟨x0, x1, x2, x3⟩, z0⟩ := B_.out; clear a0 a1 a2 a3 a4 a5 a6 hH; replace hc1 := hide hc1)
            | fail)
          generalize hwq : wz = wq at *
          clear hwq
          have SS := hide (fun W (b : Below wq.heap.size wq W) => (show (W.cell? ⟨w.heap.size, 0, none⟩ = some (.slice A n kc) ∧ W.cell? ⟨w.heap.size, 1, none⟩ = some (.bool c.s) ∧ W.cell? ⟨w.heap.size, 2, none⟩ = some (.slice c.A c.xs.length c.a) ∧ W.cell? ⟨w.heap.size, 3, none⟩ = some (.slice c.B c.ys.length c.b)) ∧ W.cell? ⟨w.heap.size + 1, 0, none⟩ = some (.slice B m kb) from (B_.out.next b)))
          clear x0 x1 x2 x3 z0
          go_cut [15, 16] (fun sa sb wx => ∃ (gv : Nat) (e2 : Int), sa = .pointer (some ⟨gv, 0, none⟩) ∧ sb = .int .i64 e2 ∧ ((e2 = 0 ∧ ∃ (r : Pt) (v0 : Rat), valF c.q (valL o (l.map Pt.qt)) = some v0 ∧ Rb v0 gv r wx) ∨ e2 = 4) ∧ Below wq.heap.size wq wx)
          case first =>
            clear HA vM lM mM MS TLD hM hR fA
            rcases hvq : valF c.q (valL o (l.map Pt.qt)) with _ | q0
            · have VALn := hide (fun R cr W (b : Below w.heap.size w W) (hR : Bl W R lb) => (VAL.out R cr W b hR).mono fun e w' h => h.nope ho.out hvq)
              clear VAL
              go_region_held3 (fun W => (W.cell? ⟨w.heap.size, 0, none⟩ = some (.slice A n kc) ∧ W.cell? ⟨w.heap.size, 1, none⟩ = some (.bool c.s) ∧ W.cell? ⟨w.heap.size, 2, none⟩ = some (.slice c.A c.xs.length c.a) ∧ W.cell? ⟨w.heap.size, 3, none⟩ = some (.slice c.B c.ys.length c.b)) ∧ W.cell? ⟨w.heap.size + 1, 0, none⟩ = some (.slice B m kb))
                (first
                  | (with_reducible exact SS.out _ (ka0 wq))
                  | (with_reducible exact SS.out _ (ka1 wq _))
                  | (with_reducible exact SS.out _ be)
                  | (with_reducible exact SS.out _ (bl_al be _))
                  | (with_reducible exact SS.out _ (be.trans ((off3 _ _ _ _ _).below be.size (fun b hb => by simp at hb; omega))))
                  | (with_reducible exact SS.out _ bc)
                  | (with_reducible exact SS.out _ (bl_al bc _))
                  | fail)
                (first
                  | (go_at_call 42; (with_reducible refine (BND.out _ ?hw).mono ?_); (case hw => first | (with_reducible exact bl_trans bb.out (ka0 wq)) | (with_reducible exact bl_trans bb.out (ka1 wq _)) | fail); rintro e wa ⟨R_, cr, rfl, hR_, hb⟩; have bc : Below wq.heap.size wq wa := (by first | (with_reducible exact bl_trans (ka0 wq) hb) | (with_reducible exact bl_trans (ka1 wq _) hb)); have n1 := bc.size; (first | (have hZ : Hid (Bk wq.heap.size #[.bool false, .slice none 0 0, .slice none 0 0] 25 wa) := by with_reducible exact hide (zd hb)) | skip); replace hR_ := hide hR_; clear hb)
                  | (go_at_call 22; (with_reducible refine (VALn.out R_ cr _ ?h1 ?h2).mono ?_); (case h1 => first | (with_reducible exact bl_trans bb.out bc) | (with_reducible exact bl_trans bb.out (bl_al bc _)) | fail); (case h2 => first | (with_reducible exact hR_.out) | (with_reducible exact hR_.out.next (bl_al (.refl _ _) _)) | fail); rintro e wd ⟨rfl, hb⟩; have g2 : Below wa.heap.size wa wd := (by first | (with_reducible exact hb) | (with_reducible exact bl_one hb)); have be := bl_trans bc g2; have n3 := be.size; have n4 := g2.size; (first | (have hZ3 := hide (hZ.out.next g2)) | (have hZ3 : Hid (Bk wa.heap.size #[.bool false, .slice none 0 0, .slice none 0 0] 25 wd) := by with_reducible exact hide (z1 hb)) | skip); (first | (have v0 := hZ3.out.cell (j := 0) rfl; have v1 := hZ3.out.cell (j := 1) rfl; have v2 := hZ3.out.cell (j := 2) rfl; have u0 := hZ3.out.free 0; have u1 := hZ3.out.free 1; have u2 := hZ3.out.free 2) | skip); clear hb)
                  | fail)
              all_goals
                go_wp2_with fail
                go_meet
                first
                  | with_reducible refine ⟨wd.heap.size, 4, rfl, rfl, ?_, bl_al be _⟩
                    exact .inr rfl
                  | with_reducible refine ⟨_, 4, rfl, rfl, ?_, be.trans ((off3 _ _ _ _ _).below be.size (fun b hb => by simp at hb; omega))⟩
                    exact .inr rfl
                  | fail
            · have VALy := hide (fun R cr W (b : Below w.heap.size w W) (hR : Bl W R lb) => (VAL.out R cr W b hR).mono fun e w' h => h.yes ho.out hvq)
              clear VAL
              unfold VaOk at VALy
              go_region_held3 (fun W => (W.cell? ⟨w.heap.size, 0, none⟩ = some (.slice A n kc) ∧ W.cell? ⟨w.heap.size, 1, none⟩ = some (.bool c.s) ∧ W.cell? ⟨w.heap.size, 2, none⟩ = some (.slice c.A c.xs.length c.a) ∧ W.cell? ⟨w.heap.size, 3, none⟩ = some (.slice c.B c.ys.length c.b)) ∧ W.cell? ⟨w.heap.size + 1, 0, none⟩ = some (.slice B m kb))
                (first
                  | (with_reducible exact SS.out _ (ka0 wq))
                  | (with_reducible exact SS.out _ (ka1 wq _))
                  | (with_reducible exact SS.out _ be)
                  | (with_reducible exact SS.out _ (bl_al be _))
                  | (with_reducible exact SS.out _ (be.trans ((off3 _ _ _ _ _).below be.size (fun b hb => by simp at hb; omega))))
                  | (with_reducible exact SS.out _ bc)
                  | (with_reducible exact SS.out _ (bl_al bc _))
                  | fail)
                (first
                  | (go_at_call 42; (with_reducible refine (BND.out _ ?hw).mono ?_); (case hw => first | (with_reducible exact bl_trans bb.out (ka0 wq)) | (with_reducible exact bl_trans bb.out (ka1 wq _)) | fail); rintro e wa ⟨R_, cr, rfl, hR_, hb⟩; have bc : Below wq.heap.size wq wa := (by first | (with_reducible exact bl_trans (ka0 wq) hb) | (with_reducible exact bl_trans (ka1 wq _) hb)); have n1 := bc.size; (first | (have hZ : Hid (Bk wq.heap.size #[.bool false, .slice none 0 0, .slice none 0 0] 25 wa) := by with_reducible exact hide (zd hb)) | skip); replace hR_ := hide hR_; clear hb)
                  | (go_at_call 22; (with_reducible refine (VALy.out R_ cr _ ?h1 ?h2).mono ?_); (case h1 => first | (with_reducible exact bl_trans bb.out bc) | (with_reducible exact bl_trans bb.out (bl_al bc _)) | fail); (case h2 => first | (with_reducible exact hR_.out) | (with_reducible exact hR_.out.next (bl_al (.refl _ _) _)) | fail); rintro e wd ⟨r, rfl, hval, hrok, hra, hb⟩; have g2 : Below wa.heap.size wa wd := (by first | (with_reducible exact hb) | (with_reducible exact bl_one hb)); have be := bl_trans bc g2; have n3 := be.size; have n4 := g2.size; (first | (have hZ3 := hide (hZ.out.next g2)) | (have hZ3 : Hid (Bk wa.heap.size #[.bool false, .slice none 0 0, .slice none 0 0] 25 wd) := by with_reducible exact hide (z1 hb)) | skip); (first | (have v0 := hZ3.out.cell (j := 0) rfl; have v1 := hZ3.out.cell (j := 1) rfl; have v2 := hZ3.out.cell (j := 2) rfl; have u0 := hZ3.out.free 0; have u1 := hZ3.out.free 1; have u2 := hZ3.out.free 2) | skip); clear hb)
                  | fail)
              all_goals
                go_wp2_with fail
                go_meet
                first
                  | with_reducible refine ⟨wd.heap.size, 0, rfl, rfl, ?_, bl_al be _⟩
                    exact .inl ⟨rfl, r, q0, hvq, rb_new hval hrok hra⟩
                  | with_reducible refine ⟨_, 0, rfl, rfl, ?_, be.trans ((off3 _ _ _ _ _).below be.size (fun b hb => by simp at hb; omega))⟩
                    exact .inl ⟨rfl, r, q0, hvq, hval, hrok, at_offR hZ3.out hra (off3 _ _ _ _ _), C3.of (((hZ3.out.set (.bool r.s) rfl).set (.slice r.A r.xs.length r.a) rfl).set (.slice r.B r.ys.length r.b) rfl)⟩
                  | fail
          case rest =>
            obtain ⟨gv, e2_, rfl, rfl, hc2, b12⟩ := hcut
            replace HA := hide (HA.out.next b12)
            have bb := hide (bl_trans bb.out b12)
            have B_ := hide (B_.out.next b12)
            clear SS b12 BND VAL
            have hc1' := hc1.out
            clear hc1
            rcases hc1' with ⟨rfl, v1, hv1, hx1⟩ | rfl
            rcases hc2 with ⟨rfl, r, v0, hv0, HR⟩ | rfl
            · have hst := MS.out v0 v1 hv1 hv0
              obtain ⟨s, hs⟩ : ∃ s, cmpZ v0.num 0 = s := ⟨_, rfl⟩
              obtain ⟨b1, hb1⟩ : ∃ b, decide (s ≤ 0) = b := ⟨_, rfl⟩
              obtain ⟨b2, hb2⟩ : ∃ b, decide (s < 0) = b := ⟨_, rfl⟩
              obtain ⟨b3, hb3⟩ : ∃ b, decide (s = 0) = b := ⟨_, rfl⟩
              have e4 := leq_b 3 s 0 b1 hb1
              have e5 := lss_b 3 s 0 b2 hb2
              have e6 := eql_b 3 s 0 b3 hb3
              have e7 := neq_b 3 s 0 (!b3) (by rw [← hb3]; simp)
              have hxx : b3 = xb := by
                rw [← hx1, hst]
                unfold stB
                rw [hs]
                exact hb3.symm
              subst hxx
              have SGV := hide (fun W (b : Below wc.heap.size wc W) => (show Calls Tryz.prog 32 #[.agg #[.bool r.s, .slice r.A r.xs.length r.a, .slice r.B r.ys.length r.b]] W (fun e w' => e = .returned (.int .i64 s) ∧ Below W.heap.size W w') from (by
                have := rsign_p HR.ok W (HR.at_.next b)
                rw [HR.hq, hs] at this
                exact this)))
              obtain ⟨r0, r1, r2⟩ := HR.x
              replace hv1 := hide hv1; replace hx1 := hide hx1
              have fM := hide HA.out.fits
              clear hst hs hb1 hb2 hb3 MS HR hv0
              obtain ⟨a0, a1, a2, a3, a4, a5, a6⟩ := HA.out.x
              go_upto_region 17 with (first
                | (go_at_call 32; (with_reducible refine (SGV.out _ (.refl _ _)).mono ?_); rintro e wz ⟨rfl, hb⟩; replace HA := hide (HA.out.next hb); replace bb := hide (bl_trans bb.out hb); replace B_ := hide (B_.out.next hb); clear hb r0 r1 r2 SGV a0 a1 a2 a3 a4 a5 a6; have hq4 := ka0' wz (.cells #[.bool b1, .bool b2, .bool b3, .bool (!b3)] 4); replace HA := hide (HA.out.next hq4); replace bb := hide (bl_trans bb.out hq4); replace B_ := hide (B_.out.next hq4); clear hq4; obtain ⟨a0, a1, a2, a3, a4, a5, a6⟩ := HA.out.x)
                | fail)
              generalize wz.alloc (.cells #[.bool b1, .bool b2, .bool b3, .bool (!b3)] 4) = w17 at *
              cases b3
              all_goals
                go_wp2_with (first
                  | (go_at_call 36; (with_reducible refine (ab_nots HA.out (by decide) lM.out).mono ?_); rintro e wz ⟨rfl, hb⟩; have hb := bl_al hb (.cells #[.int .i64 0, .slice none 0 0, .bool false, .slice none 0 0, .slice none 0 0, .int .i64 0, .int .i64 0] 58); replace bb := hide (bl_trans bb.out hb); clear hb HA a0 a1 a2 a3 a4 a5 a6)
                  | (go_at_call 35; (with_reducible refine (AW.out _).mono ?_); rintro e wz ⟨rfl, hb⟩; replace bb := hide (bl_trans bb.out hb); clear hb)
                  | fail)
                go_ret
                exact ⟨rfl, bb.out⟩
            · clear hv1 hx1 MS
              go_wp2_with (go_at_call 35; (with_reducible refine (AW.out _).mono ?_); rintro e wz ⟨rfl, hb⟩; replace bb := hide (bl_trans bb.out hb); clear hb)
              go_ret
              exact ⟨rfl, bb.out⟩
            · clear hc2 MS
              go_wp2_with (go_at_call 35; (with_reducible refine (AW.out _).mono ?_); rintro e wz ⟨rfl, hb⟩; replace bb := hide (bl_trans bb.out hb); clear hb)
              go_ret
              exact ⟨rfl, bb.out⟩
      · as_aux_lemma =>
          subst h4
          have FX := fm_small (n := 3) sL.out bq.out vL.out
          obtain ⟨M, hM⟩ : ∃ M, fmL 3 (l.map Pt.qt) = M := ⟨_, rfl⟩
          obtain ⟨R, hR⟩ : ∃ R, fmQ 3 c.q (l.map Pt.qt) = R := ⟨_, rfl⟩
          have fA := hide FX.2.2
          have vM := hide (by rw [← hM]; exact rvB_fmL vL.out : rvB (-1) M)
          have lM : Hid (M.length ≤ 1000) := hide (by rw [← hM]; have := fmL_len 3 (l.map Pt.qt); have := nL.out; omega)
          have lL : Hid ((l.map Pt.qt).length ≤ 1000) := hide (by have := nL.out; omega)
          have mM := hide (by rw [← hM, ← hR]; exact mf_made vL.out c.q : Mf 3 M R)
          have HP := hide (HPx.out _ bb.out B_.out.1)
          have MS := hide (fun (v0 v1 : Rat) (h1 : valF R (valL o M) = some v1) (h0 : valF c.q (valL o (l.map Pt.qt)) = some v0) => (show stB 3 v1 = stB 3 v0 from by
            rw [← hM, ← hR] at h1
            exact made_stands vL.out (by decide) h1 h0))
          replace hM := hide hM; replace hR := hide hR
          clear FX HPx hnn sL bq nL
          go_upto_region 12 with (first
            | (go_at_call 48; (with_reducible refine (RD.out _).mono ?_); rintro e wz ⟨rfl, rfl⟩)
            | (go_at_call 50; (with_reducible refine (pb_make 4 HP.out (by decide) 3 (by decide) true (by decide) vL.out lL.out fA.out hM.out hR.out).mono ?_); rintro e wz ⟨Aa, ka, la, ca, rfl, ma, va, pa, ta, oa, za, hb, wa, ya⟩; unfold atomV; have hb := bl_al hb (.cells #[.int .i64 3, .slice Aa la.length ka, .bool ca.s, .slice ca.A ca.xs.length ca.a, .slice ca.B ca.ys.length ca.b, .int .i64 0, .int .i64 0] 58); have HA := hide (ab_new (kd := (3)) ma va pa ta oa za wa ya); replace bb := hide (bl_trans bb.out hb); replace B_ := hide (B_.out.next hb); clear hb x0 x1 x2 x3 z0; obtain ⟨⟨x0, x1, x2, x3⟩, z0⟩ := B_.out; clear ma va pa ta oa za wa ya; clear HP; obtain ⟨a0, a1, a2, a3, a4, a5, a6⟩ := HA.out.x)
            | (go_at_call 40; (with_reducible refine (ab_holds HA.out (by decide) vM.out lM.out (mf_form mM.out) 51 #[.pointer (some ⟨w.heap.size + 1, 0, none⟩)] o (fun t _ W' b => TLD.out t W' (bl_trans bb.out b) (cell_next b B_.out.z))).mono ?_); rintro e wz hH; obtain ⟨xb, e1_, rfl, hc1, hb⟩ := hH.sym ho.out; replace HA := hide (HA.out.next hb); replace bb := hide (bl_trans bb.out hb); replace B_ := hide (B_.out.next hb); clear hb x0 x1 x2 x3 z0; obtain ⟨⟨x0, x1, x2, x3⟩, z0⟩ := B_.out; clear a0 a1 a2 a3 a4 a5 a6 hH; replace hc1 := hide hc1)
            | fail)
          generalize hwq : wz = wq at *
          clear hwq
          have SS := hide (fun W (b : Below wq.heap.size wq W) => (show (W.cell? ⟨w.heap.size, 0, none⟩ = some (.slice A n kc) ∧ W.cell? ⟨w.heap.size, 1, none⟩ = some (.bool c.s) ∧ W.cell? ⟨w.heap.size, 2, none⟩ = some (.slice c.A c.xs.length c.a) ∧ W.cell? ⟨w.heap.size, 3, none⟩ = some (.slice c.B c.ys.length c.b)) ∧ W.cell? ⟨w.heap.size + 1, 0, none⟩ = some (.slice B m kb) from (B_.out.next b)))
          clear x0 x1 x2 x3 z0
          go_cut [15, 16] (fun sa sb wx => ∃ (gv : Nat) (e2 : Int), sa = .pointer (some ⟨gv, 0, none⟩) ∧ sb = .int .i64 e2 ∧ ((e2 = 0 ∧ ∃ (r : Pt) (v0 : Rat), valF c.q (valL o (l.map Pt.qt)) = some v0 ∧ Rb v0 gv r wx) ∨ e2 = 4) ∧ Below wq.heap.size wq wx)
          case first =>
            clear HA vM lM mM MS TLD hM hR fA
            rcases hvq : valF c.q (valL o (l.map Pt.qt)) with _ | q0
            · have VALn := hide (fun R cr W (b : Below w.heap.size w W) (hR : Bl W R lb) => (VAL.out R cr W b hR).mono fun e w' h => h.nope ho.out hvq)
              clear VAL
              go_region_held3 (fun W => (W.cell? ⟨w.heap.size, 0, none⟩ = some (.slice A n kc) ∧ W.cell? ⟨w.heap.size, 1, none⟩ = some (.bool c.s) ∧ W.cell? ⟨w.heap.size, 2, none⟩ = some (.slice c.A c.xs.length c.a) ∧ W.cell? ⟨w.heap.size, 3, none⟩ = some (.slice c.B c.ys.length c.b)) ∧ W.cell? ⟨w.heap.size + 1, 0, none⟩ = some (.slice B m kb))
                (first
                  | (with_reducible exact SS.out _ (ka0 wq))
                  | (with_reducible exact SS.out _ (ka1 wq _))
                  | (with_reducible exact SS.out _ be)
                  | (with_reducible exact SS.out _ (bl_al be _))
                  | (with_reducible exact SS.out _ (be.trans ((off3 _ _ _ _ _).below be.size (fun b hb => by simp at hb; omega))))
                  | (with_reducible exact SS.out _ bc)
                  | (with_reducible exact SS.out _ (bl_al bc _))
                  | fail)
                (first
                  | (go_at_call 42; (with_reducible refine (BND.out _ ?hw).mono ?_); (case hw => first | (with_reducible exact bl_trans bb.out (ka0 wq)) | (with_reducible exact bl_trans bb.out (ka1 wq _)) | fail); rintro e wa ⟨R_, cr, rfl, hR_, hb⟩; have bc : Below wq.heap.size wq wa := (by first | (with_reducible exact bl_trans (ka0 wq) hb) | (with_reducible exact bl_trans (ka1 wq _) hb)); have n1 := bc.size; (first | (have hZ : Hid (Bk wq.heap.size #[.bool false, .slice none 0 0, .slice none 0 0] 25 wa) := by with_reducible exact hide (zd hb)) | skip); replace hR_ := hide hR_; clear hb)
                  | (go_at_call 22; (with_reducible refine (VALn.out R_ cr _ ?h1 ?h2).mono ?_); (case h1 => first | (with_reducible exact bl_trans bb.out bc) | (with_reducible exact bl_trans bb.out (bl_al bc _)) | fail); (case h2 => first | (with_reducible exact hR_.out) | (with_reducible exact hR_.out.next (bl_al (.refl _ _) _)) | fail); rintro e wd ⟨rfl, hb⟩; have g2 : Below wa.heap.size wa wd := (by first | (with_reducible exact hb) | (with_reducible exact bl_one hb)); have be := bl_trans bc g2; have n3 := be.size; have n4 := g2.size; (first | (have hZ3 := hide (hZ.out.next g2)) | (have hZ3 : Hid (Bk wa.heap.size #[.bool false, .slice none 0 0, .slice none 0 0] 25 wd) := by with_reducible exact hide (z1 hb)) | skip); (first | (have v0 := hZ3.out.cell (j := 0) rfl; have v1 := hZ3.out.cell (j := 1) rfl; have v2 := hZ3.out.cell (j := 2) rfl; have u0 := hZ3.out.free 0; have u1 := hZ3.out.free 1; have u2 := hZ3.out.free 2) | skip); clear hb)
                  | fail)
              all_goals
                go_wp2_with fail
                go_meet
                first
                  | with_reducible refine ⟨wd.heap.size, 4, rfl, rfl, ?_, bl_al be _⟩
                    exact .inr rfl
                  | with_reducible refine ⟨_, 4, rfl, rfl, ?_, be.trans ((off3 _ _ _ _ _).below be.size (fun b hb => by simp at hb; omega))⟩
                    exact .inr rfl
                  | fail
            · have VALy := hide (fun R cr W (b : Below w.heap.size w W) (hR : Bl W R lb) => (VAL.out R cr W b hR).mono fun e w' h => h.yes ho.out hvq)
              clear VAL
              unfold VaOk at VALy
              go_region_held3 (fun W => (W.cell? ⟨w.heap.size, 0, none⟩ = some (.slice A n kc) ∧ W.cell? ⟨w.heap.size, 1, none⟩ = some (.bool c.s) ∧ W.cell? ⟨w.heap.size, 2, none⟩ = some (.slice c.A c.xs.length c.a) ∧ W.cell? ⟨w.heap.size, 3, none⟩ = some (.slice c.B c.ys.length c.b)) ∧ W.cell? ⟨w.heap.size + 1, 0, none⟩ = some (.slice B m kb))
                (first
                  | (with_reducible exact SS.out _ (ka0 wq))
                  | (with_reducible exact SS.out _ (ka1 wq _))
                  | (with_reducible exact SS.out _ be)
                  | (with_reducible exact SS.out _ (bl_al be _))
                  | (with_reducible exact SS.out _ (be.trans ((off3 _ _ _ _ _).below be.size (fun b hb => by simp at hb; omega))))
                  | (with_reducible exact SS.out _ bc)
                  | (with_reducible exact SS.out _ (bl_al bc _))
                  | fail)
                (first
                  | (go_at_call 42; (with_reducible refine (BND.out _ ?hw).mono ?_); (case hw => first | (with_reducible exact bl_trans bb.out (ka0 wq)) | (with_reducible exact bl_trans bb.out (ka1 wq _)) | fail); rintro e wa ⟨R_, cr, rfl, hR_, hb⟩; have bc : Below wq.heap.size wq wa := (by first | (with_reducible exact bl_trans (ka0 wq) hb) | (with_reducible exact bl_trans (ka1 wq _) hb)); have n1 := bc.size; (first | (have hZ : Hid (Bk wq.heap.size #[.bool false, .slice none 0 0, .slice none 0 0] 25 wa) := by with_reducible exact hide (zd hb)) | skip); replace hR_ := hide hR_; clear hb)
                  | (go_at_call 22; (with_reducible refine (VALy.out R_ cr _ ?h1 ?h2).mono ?_); (case h1 => first | (with_reducible exact bl_trans bb.out bc) | (with_reducible exact bl_trans bb.out (bl_al bc _)) | fail); (case h2 => first | (with_reducible exact hR_.out) | (with_reducible exact hR_.out.next (bl_al (.refl _ _) _)) | fail); rintro e wd ⟨r, rfl, hval, hrok, hra, hb⟩; have g2 : Below wa.heap.size wa wd := (by first | (with_reducible exact hb) | (with_reducible exact bl_one hb)); have be := bl_trans bc g2; have n3 := be.size; have n4 := g2.size; (first | (have hZ3 := hide (hZ.out.next g2)) | (have hZ3 : Hid (Bk wa.heap.size #[.bool false, .slice none 0 0, .slice none 0 0] 25 wd) := by with_reducible exact hide (z1 hb)) | skip); (first | (have v0 := hZ3.out.cell (j := 0) rfl; have v1 := hZ3.out.cell (j := 1) rfl; have v2 := hZ3.out.cell (j := 2) rfl; have u0 := hZ3.out.free 0; have u1 := hZ3.out.free 1; have u2 := hZ3.out.free 2) | skip); clear hb)
                  | fail)
              all_goals
                go_wp2_with fail
                go_meet
                first
                  | with_reducible refine ⟨wd.heap.size, 0, rfl, rfl, ?_, bl_al be _⟩
                    exact .inl ⟨rfl, r, q0, hvq, rb_new hval hrok hra⟩
                  | with_reducible refine ⟨_, 0, rfl, rfl, ?_, be.trans ((off3 _ _ _ _ _).below be.size (fun b hb => by simp at hb; omega))⟩
                    exact .inl ⟨rfl, r, q0, hvq, hval, hrok, at_offR hZ3.out hra (off3 _ _ _ _ _), C3.of (((hZ3.out.set (.bool r.s) rfl).set (.slice r.A r.xs.length r.a) rfl).set (.slice r.B r.ys.length r.b) rfl)⟩
                  | fail
          case rest =>
            obtain ⟨gv, e2_, rfl, rfl, hc2, b12⟩ := hcut
            replace HA := hide (HA.out.next b12)
            have bb := hide (bl_trans bb.out b12)
            have B_ := hide (B_.out.next b12)
            clear SS b12 BND VAL
            have hc1' := hc1.out
            clear hc1
            rcases hc1' with ⟨rfl, v1, hv1, hx1⟩ | rfl
            rcases hc2 with ⟨rfl, r, v0, hv0, HR⟩ | rfl
            · have hst := MS.out v0 v1 hv1 hv0
              obtain ⟨s, hs⟩ : ∃ s, cmpZ v0.num 0 = s := ⟨_, rfl⟩
              obtain ⟨b1, hb1⟩ : ∃ b, decide (s ≤ 0) = b := ⟨_, rfl⟩
              obtain ⟨b2, hb2⟩ : ∃ b, decide (s < 0) = b := ⟨_, rfl⟩
              obtain ⟨b3, hb3⟩ : ∃ b, decide (s = 0) = b := ⟨_, rfl⟩
              have e4 := leq_b 3 s 0 b1 hb1
              have e5 := lss_b 3 s 0 b2 hb2
              have e6 := eql_b 3 s 0 b3 hb3
              have e7 := neq_b 3 s 0 (!b3) (by rw [← hb3]; simp)
              have hxx : b3 = xb := by
                rw [← hx1, hst]
                unfold stB
                rw [hs]
                exact hb3.symm
              subst hxx
              have SGV := hide (fun W (b : Below wc.heap.size wc W) => (show Calls Tryz.prog 32 #[.agg #[.bool r.s, .slice r.A r.xs.length r.a, .slice r.B r.ys.length r.b]] W (fun e w' => e = .returned (.int .i64 s) ∧ Below W.heap.size W w') from (by
                have := rsign_p HR.ok W (HR.at_.next b)
                rw [HR.hq, hs] at this
                exact this)))
              obtain ⟨r0, r1, r2⟩ := HR.x
              replace hv1 := hide hv1; replace hx1 := hide hx1
              have fM := hide HA.out.fits
              clear hst hs hb1 hb2 hb3 MS HR hv0
              obtain ⟨a0, a1, a2, a3, a4, a5, a6⟩ := HA.out.x
              go_upto_region 17 with (first
                | (go_at_call 32; (with_reducible refine (SGV.out _ (.refl _ _)).mono ?_); rintro e wz ⟨rfl, hb⟩; replace HA := hide (HA.out.next hb); replace bb := hide (bl_trans bb.out hb); replace B_ := hide (B_.out.next hb); clear hb r0 r1 r2 SGV a0 a1 a2 a3 a4 a5 a6; have hq4 := ka0' wz (.cells #[.bool b1, .bool b2, .bool b3, .bool (!b3)] 4); replace HA := hide (HA.out.next hq4); replace bb := hide (bl_trans bb.out hq4); replace B_ := hide (B_.out.next hq4); clear hq4; obtain ⟨a0, a1, a2, a3, a4, a5, a6⟩ := HA.out.x)
                | fail)
              generalize wz.alloc (.cells #[.bool b1, .bool b2, .bool b3, .bool (!b3)] 4) = w17 at *
              cases b3
              all_goals
                go_wp2_with (first
                  | (go_at_call 36; (with_reducible refine (ab_nots HA.out (by decide) lM.out).mono ?_); rintro e wz ⟨rfl, hb⟩; have hb := bl_al hb (.cells #[.int .i64 0, .slice none 0 0, .bool false, .slice none 0 0, .slice none 0 0, .int .i64 0, .int .i64 0] 58); replace bb := hide (bl_trans bb.out hb); clear hb HA a0 a1 a2 a3 a4 a5 a6)
                  | (go_at_call 35; (with_reducible refine (AW.out _).mono ?_); rintro e wz ⟨rfl, hb⟩; replace bb := hide (bl_trans bb.out hb); clear hb)
                  | fail)
                go_ret
                exact ⟨rfl, bb.out⟩
            · clear hv1 hx1 MS
              go_wp2_with (go_at_call 35; (with_reducible refine (AW.out _).mono ?_); rintro e wz ⟨rfl, hb⟩; replace bb := hide (bl_trans bb.out hb); clear hb)
              go_ret
              exact ⟨rfl, bb.out⟩
            · clear hc2 MS
              go_wp2_with (go_at_call 35; (with_reducible refine (AW.out _).mono ?_); rintro e wz ⟨rfl, hb⟩; replace bb := hide (bl_trans bb.out hb); clear hb)
              go_ret
              exact ⟨rfl, bb.out⟩
end Nt
end Go.Proofs.YtgimmmmpollkhaaGreat
