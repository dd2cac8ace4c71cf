
/-
  limbs.Add, nat.Add.
-/
import Derived.Test.YtgimmmmpollkhaaGreatNTrim
namespace Go.Proofs.YtgimmmmpollkhaaGreat

open Go.RowKit

namespace Nt

theorem u64info : (Tryz.prog.info? 119).map (fun i => (i.zero, i.size, i.bytes)) = some (some (.int .u64 0), 1, 8) := by kernel_rfl

theorem run_make_u64 (kl kc : IntKind) (n c : Nat) (hnc : n ≤ c) (h63 : c ≤ 1000000) (w : World) :
    (Instr.makeSlice 23 (.int kl (n : Int)) (.int kc (c : Int))).run Tryz.prog w = .ok (.slice (some ⟨w.heap.size, 0, none⟩) n c) (w.alloc (.cells (madeCells #[.int .u64 0] c) 119)) := by
  obtain ⟨i, hi, hz, h1, h8⟩ := info_parts u64info
  have hr := run_make (P := Tryz.prog) w 23 119 i (.int .u64 0) Tryz.underlying23 hi hz kl kc n c (by omega) (by omega) (by rw [h8]; omega) (by omega)
  simp only [Int.toNat_natCast, h1, Nat.mul_one] at hr
  exact hr

theorem app_fits {ops : Array Oper} {rest : List Oper} {o : Oper} {a : Act} {Q : Exit → Act → World → Prop} (w : World) (hgd : o.guard = none) (s x : Operand)
    (ho : o.op = Op.call { callee := Callee.builtin Builtin.append, args := #[s, x], argTypes := #[23, 23] })
    (base g n cap y : Nat) (xs : List Nat) (hs : a.eval s = .slice (some ⟨g, 0, none⟩) n cap) (hn : xs.length = n) (hown : Own w base g cap xs) (ad : Addr) (c : Nat) (hx : a.eval x = .slice (some ad) 1 c)
    (hc : w.cell? ad = some (.int .u64 (y : Int))) (room : n + 1 ≤ cap)
    (hK : ∀ w', Own w' base g cap (xs ++ [y]) → w.grownBy w' (some g) → wpList Tryz.prog ops Q rest (a.put o.dst (.slice (some ⟨g, 0, none⟩) (n + 1) cap)) w') :
    wpList Tryz.prog ops Q (o :: rest) a w := by
  subst hn
  obtain ⟨i, hi, _, h1, _⟩ := info_parts u64info
  refine wpList_append_fits w hgd s x _ ho base 119 i 1 Tryz.underlying23 hi h1 g xs.length cap (xs.map lv) hs hown ad 1 c [lv y] hx rfl ?_ (lv_one [y]) room ?_
  · intro j u hu
    cases j with
    | zero =>
      simp at hu
      subst hu
      exact hc
    | succ j => simp at hu
  · intro w' h2 h3
    refine hK w' ?_ h3
    unfold Own
    simpa using h2

def Two (w : World) (r : List Nat × Nat) (e : Ending) (w' : World) : Prop := ∃ v, e = .returned (.tuple #[v, .int .i64 (r.2 : Int)]) ∧ Res w' v r.1 ∧ Below w.heap.size w w'

theorem Two.mk {w w' : World} {r : List Nat × Nat} {v : Value} {l : List Nat} {e : Nat} (hr : r = (l, e)) (hR : Res w' v l) (hb : Below w.heap.size w w') : Two w r (.returned (.tuple #[v, .int .i64 (e : Int)])) w' := by
  subst hr; exact ⟨v, rfl, hR, hb⟩
theorem Res.nil (w : World) : Res w (.slice none 0 0) [] := ⟨none, 0, rfl, Nat.le_refl _, by unfold maxLen; omega, .nil⟩

def AddInv (xs ys : List Nat) (k c : Nat) (cs : List Nat) : Prop := cs.length = k ∧ Limbs cs ∧ c ≤ 1 ∧ val cs + LB ^ k * c = val (xs.take k) + val (ys.take k)
theorem AddInv.zero (xs ys : List Nat) : AddInv xs ys 0 0 [] := ⟨rfl, .nil, by omega, by simp⟩
theorem AddInv.step {xs ys cs : List Nat} {k c : Nat} (lx : Limbs xs) (ly : Limbs ys) (h : AddInv xs ys k c cs) :
    AddInv xs ys (k + 1) (carL (lim xs k) (lim ys k) c) (cs ++ [sumL (lim xs k) (lim ys k) c]) := by
  obtain ⟨hc, hL, h1, h⟩ := h
  refine ⟨by simp [hc], hL.append (.one (sumL_lt _ _ _)), carL_le _ _ _ (lx.get k) (ly.get k) h1, ?_⟩
  have hs := sum_eq (lim xs k) (lim ys k) c
  rw [val_append, val_one, val_take_succ, val_take_succ, hc, Nat.pow_succ]
  have : LB ^ k * sumL (lim xs k) (lim ys k) c + LB ^ k * LB * carL (lim xs k) (lim ys k) c = LB ^ k * (lim xs k + lim ys k + c) := by
    rw [← hs, Nat.mul_add, Nat.mul_assoc]
  rw [Nat.mul_add, Nat.mul_add] at this
  omega

theorem set_grow (cs : List Nat) (m x : Nat) : (cs ++ List.replicate (m + 1) 0).set cs.length x = (cs ++ [x]) ++ List.replicate m 0 := by
  rw [List.set_append_right _ _ (Nat.le_refl _), Nat.sub_self, List.replicate_succ, List.set_cons_zero, List.append_assoc]
  rfl
theorem set_grow' {cs : List Nat} {n k : Nat} (x : Nat) (hk : cs.length = k) (h : k < n) : (cs ++ List.replicate (n - k) 0).set k x = (cs ++ [x]) ++ List.replicate (n - (k + 1)) 0 := by
  subst hk
  rw [show n - cs.length = (n - (cs.length + 1)) + 1 by omega]
  exact set_grow _ _ _

theorem AddInv.end_eq {xs ys cs : List Nat} {n c : Nat} (h : AddInv xs ys n c cs) (hn : max xs.length ys.length = n) : val cs + LB ^ n * c = val xs + val ys := by
  have := h.2.2.2
  rwa [List.take_of_length_le (by omega), List.take_of_length_le (by omega)] at this
theorem norm_le_max {xs ys cs : List Nat} {n : Nat} (nx : Norm xs) (ny : Norm ys) (hn : max xs.length ys.length = n) (hc : cs.length = n) (h : val xs + val ys ≤ val cs) : cs = [] ∨ LB ^ (cs.length - 1) ≤ val cs := by
  by_cases h0 : cs = []
  · exact .inl h0
  · right
    have hp : 0 < cs.length := by
      cases cs with
      | nil => exact absurd rfl h0
      | cons _ _ => simp
    rcases Nat.le_total ys.length xs.length with hle | hle
    · have := le_val nx (fun e => absurd (congrArg List.length e) (by simp only [List.length_nil]; omega))
      rw [show cs.length - 1 = xs.length - 1 by omega]
      omega
    · have := le_val ny (fun e => absurd (congrArg List.length e) (by simp only [List.length_nil]; omega))
      rw [show cs.length - 1 = ys.length - 1 by omega]
      omega
theorem AddInv.done {xs ys cs : List Nat} {n : Nat} (h : AddInv xs ys n 0 cs) (hn : max xs.length ys.length = n) (nx : Norm xs) (ny : Norm ys) : digs (val xs + val ys) = cs := by
  have he := h.end_eq hn
  simp only [Nat.mul_zero, Nat.add_zero] at he
  rw [← he]
  exact digs_val_norm h.2.1 (norm_of_le h.2.1 (norm_le_max nx ny hn h.1 (by omega)))
theorem AddInv.more {xs ys cs : List Nat} {n : Nat} (h : AddInv xs ys n 1 cs) (hn : max xs.length ys.length = n) : digs (val xs + val ys) = cs ++ [1] := by
  have he := h.end_eq hn
  have hL : Limbs (cs ++ [1]) := h.2.1.append (.one (by rw [LB_eq]; omega))
  have hv : val (cs ++ [1]) = val xs + val ys := by rw [val_append, val_one, h.1, he]
  rw [← hv]
  exact digs_val_norm hL ((norm_snoc _ _).2 (by omega))

def New (w : World) (xs : List Nat) (e : Ending) (w' : World) : Prop := ∃ g cap, e = .returned (.slice (some ⟨g, 0, none⟩) xs.length cap) ∧ Own w' w.heap.size g cap xs ∧ Below w.heap.size w w'
theorem New.mk {w w' : World} {xs ys : List Nat} {g n cap : Nat} (e : xs = ys) (hn : ys.length = n) (ho : Own w' w.heap.size g cap ys) (hb : Below w.heap.size w w') : New w xs (.returned (.slice (some ⟨g, 0, none⟩) n cap)) w' := by
  subst e hn; exact ⟨g, cap, rfl, ho, hb⟩

set_option maxRecDepth 100000 in
set_option maxHeartbeats 400000 in
theorem ladd_ok (A B : Option Addr) (c d : Nat) (xs ys : List Nat) (w : World) (hx : Sl w A xs) (hy : Sl w B ys) (lx : Limbs xs) (ly : Limbs ys) (nx : Norm xs) (ny : Norm ys)
   (hl : xs.length ≤ 10000) (hl' : ys.length ≤ 10000) (n : Nat) (hn : max xs.length ys.length = n) :
    Calls Tryz.prog 153 #[.slice A xs.length c, .slice B ys.length d] w (New w (digs (val xs + val ys))) := by
  have hmk : ∀ W : World, (Instr.makeSlice 23 (.int .i64 (n : Int)) (.int .i64 ((n : Int) + 1))).run Tryz.prog W = .ok (.slice (some ⟨W.heap.size, 0, none⟩) n (n + 1)) (W.alloc (.cells (madeCells #[.int .u64 0] (n + 1)) 119)) :=
    fun W => run_make_u64 .i64 .i64 n (n + 1) (by omega) (by omega) W
  have hmx : ∀ ts t W, (Builtin.max_ ts t #[.int .i64 (xs.length : Int), .int .i64 (ys.length : Int)]).run Tryz.prog W = .ok (.int .i64 (n : Int)) W := fun ts t W => by
    rw [run_max_int2]
    congr 2
    split <;> omega
  have nb : n ≤ 10000 := by omega
  have H := hide hn
  clear hn
  go_enter Tryz.func153, Tryz.ntmps153
  go_wp2
  have M := hide (Own.made (n := n) w (Nat.le_refl _) (Nat.le_succ n) (by unfold maxLen; omega))
  clear hmk hmx
  go_loopw [6, 22] (fun cy i wr => ∃ k cc cs, k ≤ n ∧ i = .int .i64 (k : Nat) ∧ cy = .int .u64 (cc : Nat) ∧ AddInv xs ys k cc cs ∧ Own wr w.heap.size w.heap.size (n + 1) (cs ++ List.replicate (n - k) 0) ∧ Below w.heap.size w wr) (fun _ i _ => n - (intOf i).toNat)
  case atStart => exact ⟨0, 0, [], Nat.zero_le _, rfl, rfl, AddInv.zero _ _, by simpa using M.out, (Below.refl _ _).alloc (Nat.le_refl _) _⟩
  case round =>
    obtain ⟨k, cc, cs, hk, rfl, rfl, ai, ho, hb⟩ := hrel
    by_cases hlt : k < n
    · have hxr := hx.below hb (Nat.le_refl _)
      have hyr := hy.below hb (Nat.le_refl _)
      have hlen := ai.1
      have hcc := ai.2.2.1
      have hcell := ho.cell (j := k) (by simp; omega)
      have hfr := ho.frozen k
      have hst := ho.set k (sumL (lim xs k) (lim ys k) cc)
      rw [set_grow' _ hlen hlt] at hst
      have S := hide hst
      have I := hide (ai.step lx ly)
      have BB := hide hb
      clear hst hlen ho ai hb
      go_wp2_with (first
        | (go_at_call 159; (with_reducible refine (limb_any _ _ _ _ _ (by assumption) (by omega) (by omega)).mono ?_); rintro e w' ⟨rfl, rfl⟩)
        | simp only [add64 _ _ cc hcc])
      go_roundw
      case rel => exact ⟨k + 1, _, _, by omega, by go_num, rfl, I.out, S.out, BB.out.setCell (Nat.le_refl _) _⟩
      case measure => simp [intOf]; omega
    · obtain rfl : k = n := by omega
      rw [Nat.sub_self, List.replicate_zero, List.append_nil] at ho
      have hlen := hide ai.1
      have hcc := ai.2.2.1
      by_cases hc0 : cc = 0
      · subst hc0
        have O := hide ho
        have E := hide (ai.done H.out nx ny)
        have BB := hide hb
        clear ho ai hb
        go_wp2
        go_ret
        exact New.mk E.out hlen.out O.out BB.out
      · obtain rfl : cc = 1 := by omega
        have E := hide (ai.more H.out)
        have O := hide ho
        have BB := hide hb
        clear ho ai hb
        go_wp2_with (at_builtin; refine app_fits _ rfl (.tmp 43) (.tmp 45) rfl w.heap.size w.heap.size k (k + 1) 1 cs rfl hlen.out (O.out.alloc _) ⟨wr.heap.size, 0, none⟩ 1 rfl (by rw [World.cell?_alloc_at _ _ _ _ rfl]; rfl) (Nat.le_refl _) ?_; intro w1 hown1 hg1)
        go_ret
        exact New.mk E.out (by rw [List.length_append, hlen.out]; rfl) hown1 ((BB.out.alloc BB.out.size _).grown hg1 (by simp; have := BB.out.size; omega) (fun q hq => by injection hq; omega))
theorem ladd_any (A B : Option Addr) (c d : Nat) (xs ys : List Nat) (w : World) (hx : Sl w A xs) (hy : Sl w B ys) (lx : Limbs xs) (ly : Limbs ys) (nx : Norm xs) (ny : Norm ys)
   (hl : xs.length ≤ 10000) (hl' : ys.length ≤ 10000) :
    Calls Tryz.prog 153 #[.slice A xs.length c, .slice B ys.length d] w (New w (digs (val xs + val ys))) := ladd_ok A B c d xs ys w hx hy lx ly nx ny hl hl' _ rfl

end Nt

end Go.Proofs.YtgimmmmpollkhaaGreat
