import Derived.Test.YthabfakbdfaciaaGreatOB7
import Derived.Test.YthabfakbdfaciaaGreatOB8
namespace Go.Proofs.YthabfakbdfaciaaGreat
namespace Nt
set_option maxRecDepth 100000
set_option linter.unusedSimpArgs false
set_option linter.unusedVariables false
set_option maxHeartbeats 16000000
section
open Go.ChangeShapes Go.RowKit
def Same (X : List Nat) (w w' : World) : Prop := ∀ b ∈ X, w'.heap[b]? = w.heap[b]?
theorem Same.trans {X : List Nat} {w w1 w' : World} (h : Same X w w1) (k : Same X w1 w') : Same X w w' := fun b hb => (k b hb).trans (h b hb)
theorem Same.of_below {X : List Nat} {w w' : World} (h : Below w.heap.size w w') (hX : ∀ b ∈ X, b < w.heap.size) : Same X w w' := fun b hb => h.block b (hX b hb)
def Tw (X : List Nat) (B : Nat) (w0 w : World) (p N lv : Nat) (so fu : List (ByteArray × Nat)) (ty : List Fn) : Prop :=
  ∃ T, Tb X w p T N lv so fu ty ∧ (∀ b ∈ T, B ≤ b) ∧ Below B w0 w ∧ B ≤ w.heap.size
section
variable {X : List Nat} {B : Nat} {w0 w w' : World} {p N lv : Nat} {so fu so' fu' : List (ByteArray × Nat)} {ty ty' : List Fn}
theorem Tb.lt {T : List Nat} (h : Tb X w p T N lv so fu ty) : ∀ b ∈ T, b < w.heap.size := by
  obtain ⟨⟨v1, m1, v2, m2, v3, h⟩, _⟩ := h
  exact h.lt
theorem Tb.xs {T : List Nat} (h : Tb X w p T N lv so fu ty) : ∀ b ∈ X, b < w.heap.size ∧ b ∉ T := by
  obtain ⟨⟨v1, m1, v2, m2, v3, h⟩, _⟩ := h
  exact h.xs
theorem TbP.below {w w' : World} {p : Nat} {T : List Nat} {N lv : Nat} {so fu : List (ByteArray × Nat)} {ty : List Fn} {v1 : Value} {m1 : Option Nat} {v2 : Value} {m2 : Option Nat} {v3 : Value} (h : TbP X w p T N lv so fu ty v1 m1 v2 m2 v3) (hb : Below w.heap.size w w') : TbP X w' p T N lv so fu ty v1 m1 v2 m2 v3 := h.off (S := []) (.of_below hb [])
theorem Tb.below {w w' : World} {p : Nat} {T : List Nat} {N lv : Nat} {so fu : List (ByteArray × Nat)} {ty : List Fn} (h : Tb X w p T N lv so fu ty) (hb : Below w.heap.size w w') : Tb X w' p T N lv so fu ty := by
  obtain ⟨⟨v1, m1, v2, m2, v3, h⟩, hn⟩ := h
  exact ⟨⟨v1, m1, v2, m2, v3, h.below hb⟩, hn⟩
theorem Tw.next (h : Tw X B w0 w p N lv so fu ty) (hb : Below w.heap.size w w') : Tw X B w0 w' p N lv so fu ty := by
  obtain ⟨T, h1, h2, h3, h4⟩ := h
  exact ⟨T, h1.below hb, h2, h3.trans (hb.mono h4), Nat.le_trans h4 hb.size⟩
theorem Tw.below (h : Tw X B w0 w p N lv so fu ty) : Below B w0 w := by obtain ⟨T, h1, h2, h3, h4⟩ := h; exact h3
theorem Tw.base (h : Tw X B w0 w p N lv so fu ty) : B ≤ w.heap.size := by obtain ⟨T, h1, h2, h3, h4⟩ := h; exact h4
theorem Tw.lt (h : Tw X B w0 w p N lv so fu ty) {b : Nat} (hb : b ∈ X) : b < w.heap.size := by obtain ⟨T, h1, h2, h3, h4⟩ := h; exact (h1.xs b hb).1
theorem Tw.mono (h : Tw X B w0 w p N lv so fu ty) {N' : Nat} (hN : N ≤ N') : Tw X B w0 w p N' lv so fu ty := by
  obtain ⟨T, ⟨⟨v1, m1, v2, m2, v3, h1⟩, hn⟩, h2, h3, h4⟩ := h
  exact ⟨T, ⟨⟨v1, m1, v2, m2, v3, h1.bk, h1.sS.off (Off.refl [] w) (by simp) hN, h1.fS.off (Off.refl [] w) (by simp) hN, h1.tS, h1.eT, h1.once, h1.xs⟩, hn⟩, h2, h3, h4⟩
theorem Tw.turn {Y : List Nat} (h : Tw X B w0 w p N lv so fu ty) (hb : Below w.heap.size w w') (hY : ∀ b ∈ Y, (b ∈ X ∨ w.heap.size ≤ b) ∧ b < w'.heap.size) : Tw Y B w0 w' p N lv so fu ty := by
  obtain ⟨T, ⟨⟨v1, m1, v2, m2, v3, h1⟩, hn⟩, h2, h3, h4⟩ := h
  have h1' := h1.below hb
  obtain ⟨xs, hx, hF⟩ := h1.tS
  have hO := Off.of_below hb []
  refine ⟨T, ⟨⟨v1, m1, v2, m2, v3, h1'.bk, h1'.sS, h1'.fS, ⟨xs, Off.row hx hO (by simp), Fs.off hO (by simp) (fun b hb => ?_) hF⟩, h1'.eT, h1'.once, fun b hb => ⟨(hY b hb).2, fun hm => ?_⟩⟩, hn⟩, h2, h3.trans (hb.mono h4), Nat.le_trans h4 hb.size⟩
  · rcases List.mem_append.1 hb with hb | hb
    · exact .inl (List.mem_append_left _ hb)
    · exact (hY b hb).1.imp (List.mem_append_right _) id
  · rcases (hY b hb).1 with hx | hx
    · exact (h1.xs b hx).2 hm
    · exact Nat.not_lt.2 hx (h1.lt b hm)
theorem Tw.less {Y : List Nat} (h : Tw X B w0 w p N lv so fu ty) (hY : ∀ b ∈ Y, b ∈ X) : Tw Y B w0 w p N lv so fu ty :=
  h.turn (.refl _ _) (fun b hb => ⟨.inl (hY b hb), h.lt (hY b hb)⟩)
theorem Tw.alloc (h : Tw X B w0 w p N lv so fu ty) (o : Obj) : Tw (w.heap.size :: X) B w0 (w.alloc o) p N lv so fu ty := by
  have hb : Below w.heap.size w (w.alloc o) := (Below.refl _ _).alloc (Nat.le_refl _) o
  refine h.turn hb (fun b hm => ?_)
  rcases List.mem_cons.1 hm with rfl | hm
  · exact ⟨.inr (Nat.le_refl _), by simp⟩
  · exact ⟨.inl hm, Nat.lt_of_lt_of_le (h.lt hm) hb.size⟩
theorem Tw.offX {S : List Nat} (h : Tw X B w0 w p N lv so fu ty) (hO : Off S w w') (hS : ∀ b ∈ S, b ∈ X ∧ B ≤ b) : Tw X B w0 w' p N lv so fu ty := by
  obtain ⟨T, ⟨⟨v1, m1, v2, m2, v3, h1⟩, hn⟩, h2, h3, h4⟩ := h
  have hd : ∀ b ∈ T, b ∉ S := fun b hb hm => (h1.xs b (hS b hm).1).2 hb
  have hT := h1.eT
  obtain ⟨xs, hx, hF⟩ := h1.tS
  have s0 : p ∈ T := by rw [hT]; simp
  have s1 : ∀ k ∈ bks v1 m1, k ∈ T := fun k hk => by rw [hT]; exact List.mem_cons_of_mem _ (List.mem_append_left _ hk)
  have s2 : ∀ k ∈ bks v2 m2, k ∈ T := fun k hk => by rw [hT]; exact List.mem_cons_of_mem _ (List.mem_append_right _ (List.mem_append_left _ hk))
  have s3 : ∀ k, v3.ownBlock = some k → k ∈ T := fun k hk => by rw [hT]; exact List.mem_cons_of_mem _ (List.mem_append_right _ (List.mem_append_right _ (by rw [Option.mem_toList]; exact hk)))
  exact ⟨T, ⟨⟨v1, m1, v2, m2, v3, h1.bk.off hO (hd _ s0), h1.sS.off hO (fun k hk => hd k (s1 k hk)) (Nat.le_refl _), h1.fS.off hO (fun k hk => hd k (s2 k hk)) (Nat.le_refl _), ⟨xs, Off.row hx hO (fun k hk => hd k (s3 k hk)), Fs.off hO (fun b hb => .inl (List.mem_append_right _ (hS b hb).1)) (fun b hb => .inl hb) hF⟩, h1.eT, h1.once, xs_off h1.xs hO.size (fun b hb => .inl hb)⟩, hn⟩, h2, h3.trans (hO.below h4 (fun b hb => (hS b hb).2)), Nat.le_trans h4 hO.size⟩
def Ar (X : List Nat) (w : World) (A : Option Addr) (ar : List Int) : Prop := ar = [] ∨ ∃ b o, A = some ⟨b, o, none⟩ ∧ b ∈ X ∧ ∀ j, j < ar.length → w.cell? ⟨b, o + j, none⟩ = some (.int .i64 (ar.getD j 0))
theorem Ar.ir {T : List Nat} {A : Option Addr} {ar : List Int} (h : Ar X w A ar) (hX : ∀ b ∈ X, b < w.heap.size ∧ b ∉ T) : Ir T w A ar := by
  rcases h with h | ⟨b, o, h1, h2, h3⟩
  · exact .inl h
  · exact .inr ⟨b, o, h1, (hX b h2).1, (hX b h2).2, h3⟩
theorem tw_find (h : Tw X B w0 w p N lv so fu ty) (s : ByteArray) (hs : s.size ≤ maxLen) (hN : N ≤ 1000000) (i : Nat) (hi : i < ty.length) (hx : ty[i].nm.data.toList = s.data.toList) :
    Calls Tryz.prog 102 #[.pointer (some ⟨p, 0, none⟩), .string s] w fun e w' => ∃ A c, e = .returned (.tuple #[.agg #[.string ty[i].nm, .slice A ty[i].ar.length c, .int .i64 ty[i].rs], .bool true]) ∧ (∀ S : List Nat, (∀ b ∈ S, b < w.heap.size) → Ir S w' A ty[i].ar) ∧ Below w.heap.size w w' := by
  obtain ⟨T, h1, h2, h3, h4⟩ := h
  have hn := h1.2
  have hl := congrArg List.length hn
  simp only [List.length_map] at hl
  have he : fu[i].1 = ty[i].nm := by
    have := congrArg (fun l => l[i]?) hn
    simp only [List.getElem?_map, List.getElem?_eq_getElem hi, List.getElem?_eq_getElem (show i < fu.length by omega), Option.map_some] at this
    injection this
  exact find_yes p T N lv so fu ty s w h1 hs hN i (by omega) hi (by rw [he]; exact hx)
end
open Go.ChangeMaps Go.MapKept Go.WideMaps
def lBool : List UInt8 := [66, 111, 111, 108]
def lReal : List UInt8 := [82, 101, 97, 108]
def ixB (es : List (ByteArray × Nat)) (s : ByteArray) : Nat := es.findIdx (fun e => e.1.data.toList == s.data.toList)
def fsI (so : List (ByteArray × Nat)) (s : ByteArray) : Int := if s.data.toList = lBool then 0 else if s.data.toList = lReal then 1 else if hasB so s = true then (ixB so s : Int) + 2 else 0
def fsB (so : List (ByteArray × Nat)) (s : ByteArray) : Bool := decide (s.data.toList = lBool) || decide (s.data.toList = lReal) || hasB so s
theorem bel_drew (W : World) : Below W.heap.size W W.drew := ((Off.refl [] W).drew).below (Nat.le_refl _) (by simp)
theorem bel_al (W : World) (o : Obj) : Below W.heap.size W (W.alloc o) := (Below.refl _ _).alloc (Nat.le_refl _) o
section
def Rv (Z : List Nat) (w : World) (A : Option Addr) (vs : List Value) : Prop := vs = [] ∨ ∃ b o, A = some ⟨b, o, none⟩ ∧ b < w.heap.size ∧ b ∉ Z ∧ ∀ j u, vs[j]? = some u → w.cell? ⟨b, o + j, none⟩ = some u
theorem Rv.off {Z S Z' : List Nat} {w w' : World} {A : Option Addr} {vs : List Value} (h : Rv Z w A vs) (hf : Off S w w') (hS : ∀ b ∈ S, b ∈ Z ∨ w.heap.size ≤ b) (hZ : ∀ b ∈ Z', b ∈ Z ∨ w.heap.size ≤ b) : Rv Z' w' A vs := by
  rcases h with h | ⟨b, o, rfl, hb, hn, hc⟩
  · exact .inl h
  · refine .inr ⟨b, o, rfl, Nat.lt_of_lt_of_le hb hf.size, fun hm => (hZ b hm).elim hn (fun hle => Nat.not_lt.2 hle hb), fun j u hj => ?_⟩
    exact hf.cell (a := ⟨b, o + j, none⟩) (hc j u hj) hb (fun hm => (hS b hm).elim hn (fun hle => Nat.not_lt.2 hle hb))
theorem Rv.of_row {Z : List Nat} {w : World} {base e size n cap : Nat} {A : Option Addr} {xs : List Value} (h : w.ownsRow base e size (.slice A n cap) n xs) (hZ : ∀ k, (Value.slice A n cap).ownBlock = some k → k ∉ Z) : Rv Z w A xs := by
  rcases h.2 with ⟨e, h0⟩ | ⟨g, c, cu, e, _, hg, _⟩
  · subst h0
    exact .inl (List.eq_nil_of_length_eq_zero (by rw [h.1]; simp))
  · cases e
    refine .inr ⟨g, 0, rfl, (Array.getElem?_eq_some_iff.1 hg).1, hZ g rfl, fun j u hj => ?_⟩
    have := h.cells (g := g) rfl j u hj
    rwa [Addr.add_lit] at this
theorem Rv.get {Z : List Nat} {w : World} {A : Option Addr} {vs : List Value} (h : Rv Z w A vs) {j : Nat} {u : Value} (hj : vs[j]? = some u) : ∃ b o, A = some ⟨b, o, none⟩ ∧ w.cell? ⟨b, o + j, none⟩ = some u := by
  rcases h with h | ⟨b, o, h1, h2, h3, h4⟩
  · rw [h] at hj; simp at hj
  · exact ⟨b, o, h1, h4 j u hj⟩
theorem app_row {t e : TypeId} {z : Value} {size bytes : Nat} (hinf : ∃ i : TypeInfo, Tryz.prog.info? e = some i ∧ i.zero = some z ∧ i.size = size ∧ i.bytes = bytes) (ht : Tryz.prog.underlying t = some (.slice e)) (hzs : z.cells.size = size) (hsz : 0 < size) (w : World) (v : Value) (n : Nat) (xs : List Value) (hrow : w.ownsRow 0 e size v n xs)
    (A : Option Addr) (m c : Nat) (news : List Value) (Z : List Nat) (hl : news.length = m * size) (hR : Rv Z w A news) (hone : ∀ u ∈ news, u.oneCell' = true) (hm : n + m ≤ 100000) (hb : bytes ≤ 1000) (hform : A = none → c = 0) :
    ∃ v' w', (∀ ty, (Builtin.append_ #[t, t] ty #[v, .slice A m c]).run Tryz.prog w = .ok v' w') ∧ w'.ownsRow 0 e size v' (n + m) (xs ++ news) ∧ Off v.ownBlock.toList w w' ∧ ∀ b, v'.ownBlock = some b → v.ownBlock = some b ∨ w.heap.size ≤ b := by
  obtain ⟨i, hi, hz, h1, h8⟩ := hinf
  have hbound : (n + m) * bytes ≤ 140737488355328 := Nat.le_trans (Nat.mul_le_mul hm hb) (by decide)
  have main : ∀ a : Addr, (∀ j u, news[j]? = some u → w.cell? (a.add j) = some u) → A = some a → _ := fun a hc hA => run_append_own_at (P := Tryz.prog) w 0 t 0 e i z size bytes ht hi hz h1 h8 hzs hsz v n xs hrow a m c news hl hc hone (by unfold maxLen; omega) hbound (Nat.zero_le _)
  have fin : ∀ a : Addr, (∀ j u, news[j]? = some u → w.cell? (a.add j) = some u) → A = some a → ∃ v' w', (∀ ty, (Builtin.append_ #[t, t] ty #[v, .slice A m c]).run Tryz.prog w = .ok v' w') ∧ w'.ownsRow 0 e size v' (n + m) (xs ++ news) ∧ Off v.ownBlock.toList w w' ∧ ∀ b, v'.ownBlock = some b → v.ownBlock = some b ∨ w.heap.size ≤ b := by
    intro a hc hA
    obtain ⟨v', w', hr, k2, k3, k4, k5⟩ := main a hc hA
    subst hA
    refine ⟨v', w', fun ty => hr, k2, Off.of_grown (T := v.ownBlock.toList) k3 (fun k hk => .inl (by simp [hk])), fun b hb => ?_⟩
    rcases k5 with k5 | k5
    · exact .inl (k5 ▸ hb)
    · rw [k5] at hb
      injection hb with hb
      exact .inr (by omega)
  rcases hR with h0 | ⟨b, o, rfl, _, _, hc⟩
  · subst h0
    have hm0 : m = 0 := by
      have : m * size = 0 := by simpa using hl.symm
      rcases Nat.mul_eq_zero.1 this with h | h
      · exact h
      · omega
    subst hm0
    cases A with
    | some a => exact fin a (by simp) rfl
    | none =>
      obtain rfl := hform rfl
      refine ⟨v, w, fun ty => ?_, by simpa using hrow, .refl _ _, fun b hb => .inl hb⟩
      rcases hrow.2 with ⟨rfl, _⟩ | ⟨g, cap, cur, rfl, _, _, hnc, _⟩
      · simp [Builtin.append_, run_underlying ht, sizeOf, typeInfo, hi, Builtin.lenOf, Builtin.firstCells, loadCells, loadCellsFrom]
      · simp [Builtin.append_, run_underlying ht, sizeOf, typeInfo, hi, Builtin.lenOf, Builtin.firstCells, loadCells, loadCellsFrom, hnc, storeCells]
  · refine fin ⟨b, o, none⟩ (fun j u hj => ?_) rfl
    rw [Addr.add_lit]
    exact hc j u hj
theorem infS : ∃ i : TypeInfo, Tryz.prog.info? 9 = some i ∧ i.zero = some (.string ⟨#[]⟩) ∧ i.size = 1 ∧ i.bytes = 16 := info_parts (P := Tryz.prog) (e := 9) (z := .string ⟨#[]⟩) (size := 1) (bytes := 16) (by kernel_rfl)
theorem infF : ∃ i : TypeInfo, Tryz.prog.info? 59 = some i ∧ i.zero = some (.agg #[.string ⟨#[]⟩, .slice none 0 0, .int .i64 0]) ∧ i.size = 3 ∧ i.bytes = 48 := info_parts (P := Tryz.prog) (e := 59) (z := .agg #[.string ⟨#[]⟩, .slice none 0 0, .int .i64 0]) (size := 3) (bytes := 48) (by kernel_rfl)
theorem infI : ∃ i : TypeInfo, Tryz.prog.info? 3 = some i ∧ i.zero = some (.int .i64 0) ∧ i.size = 1 ∧ i.bytes = 8 := info_parts (P := Tryz.prog) (e := 3) (z := .int .i64 0) (size := 1) (bytes := 8) (by kernel_rfl)
theorem row_empty (w : World) (e size : Nat) : (w.alloc (.cells #[] e)).ownsRow 0 e size (.slice (some ⟨w.heap.size, 0, none⟩) 0 0) 0 [] :=
  ⟨by simp, .inr ⟨w.heap.size, 0, #[], rfl, Nat.zero_le _, heap_alloc_new w _, Nat.le_refl _, Nat.zero_le _, by simp, by simp⟩⟩
def lcs (L : List (Nat × Nat)) : List Value := L.flatMap fun l => [.int .i64 (l.1 : Int), .int .i64 (l.2 : Int)]
structure RfP (Z : List Nat) (w : World) (r : Nat) (R : List Nat) (nm : List ByteArray) (fs : List Fn) (L : List (Nat × Nat)) (AN : Option Addr) (cN : Nat) (AF : Option Addr) (cF : Nat) (vL : Value) : Prop where
  bk : Bk r #[.slice AN nm.length cN, .slice AF fs.length cF, vL] 49 w
  nN : nm.length ≤ cN ∧ cN ≤ maxLen ∧ (AN = none → cN = 0)
  nF : fs.length ≤ cF ∧ cF ≤ maxLen ∧ (AF = none → cF = 0)
  rN : Rv (R ++ Z) w AN (nm.map Value.string)
  rF : ∃ vs, Rv (R ++ Z) w AF vs ∧ Fs (R ++ Z) w fs vs
  rL : w.ownsRow 0 242 2 vL L.length (lcs L)
  eR : R = r :: vL.ownBlock.toList
  once : R.Nodup
  ap : ∀ b ∈ Z, b ∉ R
section
variable {Z R : List Nat} {w w' : World} {r : Nat} {nm : List ByteArray} {fs : List Fn} {L : List (Nat × Nat)} {AN : Option Addr} {cN : Nat} {AF : Option Addr} {cF : Nat} {vL : Value}
theorem RfP.lt (h : RfP Z w r R nm fs L AN cN AF cF vL) : ∀ b ∈ R, b < w.heap.size := by
  intro b hb
  rw [h.eR] at hb
  rcases List.mem_cons.1 hb with rfl | hb
  · exact h.bk.lt
  · rw [Option.mem_toList] at hb; exact row_lt h.rL hb
theorem RfP.off {Z' S : List Nat} (h : RfP Z w r R nm fs L AN cN AF cF vL) (hO : Off S w w') (hS : ∀ b ∈ S, b ∈ Z ∨ w.heap.size ≤ b) (hZ : ∀ b ∈ Z', b ∈ Z ∨ w.heap.size ≤ b) : RfP Z' w' r R nm fs L AN cN AF cF vL := by
  have hd : ∀ b ∈ R, b ∉ S := fun b hb hm => (hS b hm).elim (fun hz => h.ap b hz hb) (fun hle => Nat.not_lt.2 hle (h.lt b hb))
  have hS' : ∀ b ∈ S, b ∈ R ++ Z ∨ w.heap.size ≤ b := fun b hb => (hS b hb).imp (List.mem_append_right _) id
  have hZ' : ∀ b ∈ R ++ Z', b ∈ R ++ Z ∨ w.heap.size ≤ b := fun b hb => (List.mem_append.1 hb).elim (fun h => .inl (List.mem_append_left _ h)) (fun h => (hZ b h).imp (List.mem_append_right _) id)
  have hR := h.eR
  obtain ⟨vs, h1, h2⟩ := h.rF
  exact ⟨h.bk.off hO (hd r (by rw [hR]; simp)), h.nN, h.nF, h.rN.off hO hS' hZ', ⟨vs, h1.off hO hS' hZ', h2.off hO hS' hZ'⟩, Off.row h.rL hO (fun k hk => hd k (by rw [hR]; simp [hk])), h.eR, h.once, fun b hb hm => (hZ b hb).elim (fun hz => h.ap b hz hm) (fun hle => Nat.not_lt.2 hle (h.lt b hm))⟩
theorem RfP.next (h : RfP Z w r R nm fs L AN cN AF cF vL) (hb : Below w.heap.size w w') : RfP Z w' r R nm fs L AN cN AF cF vL := h.off (Off.of_below hb []) (by simp) (fun b hb => .inl hb)
theorem ref_is (h : RfP Z w r R nm fs L AN cN AF cF vL) (hn : nm.length ≤ 1000000) (x : Int) :
    Calls Tryz.prog 50 #[.pointer (some ⟨r, 0, none⟩), .int .i64 x] w fun e w' => e = .returned (.bool (knownB nm.length x)) ∧ w = w' := by
  have a0 : w.cell? ⟨r, 0, none⟩ = some (.slice AN nm.length cN) := h.bk.cell rfl
  clear h
  have go : ∀ b, knownB nm.length x = b → Calls Tryz.prog 50 #[.pointer (some ⟨r, 0, none⟩), .int .i64 x] w fun e w' => e = .returned (.bool b) ∧ w = w' := by
    intro b hb
    by_cases h1 : 0 ≤ x
    · by_cases h2 : x < (nm.length : Int) + 2
      · have : b = true := by rw [← hb]; simp [knownB, h1, h2]
        subst this
        clear hb
        generalize nm.length = n at *
        go_enter Tryz.func50, Tryz.ntmps50
        go_wp2
        go_ret
        exact ⟨rfl, rfl⟩
      · have : b = false := by rw [← hb]; simp [knownB, h1, h2]
        subst this
        clear hb
        have h3 : decide (x < (nm.length : Int) + 2) = false := decide_eq_false h2
        generalize nm.length = n at *
        go_enter Tryz.func50, Tryz.ntmps50
        go_wp2
        go_ret
        exact ⟨rfl, rfl⟩
    · have : b = false := by rw [← hb]; simp [knownB, h1]
      subst this
      have h3 : decide (0 ≤ x) = false := decide_eq_false h1
      clear hb
      go_enter Tryz.func50, Tryz.ntmps50
      go_wp2
      go_ret
      exact ⟨rfl, rfl⟩
  exact go _ rfl
end
def resS : List ByteArray := resL.map fun l => ⟨l.toArray⟩
theorem ref_reserved (s : ByteArray) (w : World) : Calls Tryz.prog 70 #[.string s] w fun e w' => e = .returned (.bool (resB s)) ∧ Below w.heap.size w w' := by
  have e1 : ∀ b : ByteArray, binOp .eql 9 (.string b) (.string s) = pure (.bool (b.data.toList == s.data.toList)) := fun b => eql_s _ b s
  obtain ⟨W, hW⟩ : ∃ W, W = w.alloc (.cells (resS.map Value.string).toArray 9) := ⟨_, rfl⟩
  have hbk : Bk w.heap.size (resS.map Value.string).toArray 9 W := by rw [hW]; exact Bk.new _ _ _
  have hbl : Below w.heap.size w W := by rw [hW]; exact (Below.refl _ _).alloc (Nat.le_refl _) _
  have hc : ∀ k (h : k < 27), ∃ b : ByteArray, W.cell? ⟨w.heap.size, k, none⟩ = some (.string b) ∧ b.data.toList = resL[k]'h := by
    intro k hk
    have hl : resL.length = 27 := rfl
    refine ⟨⟨(resL[k]'hk).toArray⟩, hbk.cell ?_, rfl⟩
    have e1 : (resS.map Value.string).toArray[k]? = (resS[k]?).map Value.string := by simp
    have e2 : resS[k]? = some ⟨(resL[k]'hk).toArray⟩ := by unfold resS; rw [List.getElem?_map, List.getElem?_eq_getElem (show k < resL.length from hk)]; rfl
    rw [e1, e2]; rfl
  have hrr : resB s = resL.contains s.data.toList := rfl
  have hlit : (resS.map Value.string).toArray = #[.string ⟨#[116, 114, 117, 101]⟩, .string ⟨#[102, 97, 108, 115, 101]⟩, .string ⟨#[110, 111, 116]⟩, .string ⟨#[97, 110, 100]⟩, .string ⟨#[111, 114]⟩, .string ⟨#[61, 62]⟩, .string ⟨#[120, 111, 114]⟩, .string ⟨#[61]⟩, .string ⟨#[100, 105, 115, 116, 105, 110, 99, 116]⟩, .string ⟨#[105, 116, 101]⟩, .string ⟨#[108, 101, 116]⟩, .string ⟨#[43]⟩, .string ⟨#[45]⟩, .string ⟨#[42]⟩, .string ⟨#[47]⟩, .string ⟨#[60, 61]⟩, .string ⟨#[60]⟩, .string ⟨#[62, 61]⟩, .string ⟨#[62]⟩, .string ⟨#[66, 111, 111, 108]⟩, .string ⟨#[82, 101, 97, 108]⟩, .string ⟨#[95]⟩, .string ⟨#[33]⟩, .string ⟨#[97, 115]⟩, .string ⟨#[101, 120, 105, 115, 116, 115]⟩, .string ⟨#[102, 111, 114, 97, 108, 108]⟩, .string ⟨#[112, 97, 114]⟩] := by rfl
  rw [hlit] at hW
  obtain ⟨x, hx⟩ : ∃ x, x = resB s := ⟨_, rfl⟩
  rw [← hx]
  replace hx := hide hx
  replace hc := hide hc
  replace hbl := hide hbl
  clear hbk hlit hrr
  obtain ⟨l, hl⟩ : ∃ l, l = s.data.toList := ⟨_, rfl⟩
  rw [← hl] at e1
  replace hl := hide hl
  replace hW := hide hW
  go_enter Tryz.func70, Tryz.ntmps70
  go_wp2
  rw [← hW.out]
  go_loop [4] (fun i => ∃ k : Nat, k ≤ 27 ∧ i = .int .i64 (k : Int) ∧ ∀ j (h : j < k) (h2 : j < 27), resL[j]'h2 ≠ l) (fun i => 27 - (intOf i).toNat)
  case atStart => exact ⟨0, by omega, rfl, by intro j hj; omega⟩
  case round =>
    obtain ⟨k, hk, rfl, hno⟩ := hrel
    by_cases hk27 : k < 27
    · obtain ⟨b, c0, hb⟩ := hc.out k hk27
      have e2 := e1 b
      rw [hb] at e2
      replace hb := hide hb
      by_cases heq : resL[k]'hk27 = l
      · rw [beq_iff_eq.2 heq] at e2
        have hxt : x = true := by
          rw [hx.out]
          unfold resB
          rw [List.contains_iff_mem, ← hl.out, ← heq]
          exact List.getElem_mem _
        subst hxt
        replace heq := hide heq
        replace hno := hide hno
        clear e1
        go_wp2
        go_ret
        exact ⟨rfl, hbl.out⟩
      · rw [beq_eq_false_iff_ne.2 heq] at e2
        have hno2 : Hid (∀ j (h : j < k + 1) (h2 : j < 27), resL[j]'h2 ≠ l) := hide (fun j hj h2 => by
          by_cases e : j = k
          · subst e; exact heq
          · exact hno j (by omega) h2)
        clear hno e1
        replace heq := hide heq
        go_wp2
        go_round
        case rel => exact ⟨k + 1, by omega, by go_num, hno2.out⟩
        case measure => simp [intOf]; omega
    · have hxf : x = false := by
        rw [hx.out]
        unfold resB
        rw [Bool.eq_false_iff]
        intro hm
        rw [List.contains_iff_mem] at hm
        obtain ⟨j, hj, he⟩ := List.getElem_of_mem hm
        have hl27 : resL.length = 27 := rfl
        exact hno j (by omega) (by omega) (he.trans hl.out.symm)
      subst hxf
      replace hno := hide hno
      have hkd : decide (k < 27) = false := decide_eq_false hk27
      clear e1
      go_wp2
      go_ret
      exact ⟨rfl, hbl.out⟩
theorem ref_name (s : ByteArray) (hs : s.size ≤ 9223372036854775807) (w : World) : Calls Tryz.prog 46 #[.string s] w fun e w' => e = .returned (.bool (nameB s)) ∧ Below w.heap.size w w' := by
  have hr := ref_reserved s w
  have go : ∀ b, nameB s = b → Calls Tryz.prog 46 #[.string s] w fun e w' => e = .returned (.bool b) ∧ Below w.heap.size w w' := by
    intro b hb
    by_cases h0 : 1 ≤ s.size
    · by_cases h1 : s.size ≤ 200
      · have : b = !resB s := by rw [← hb]; simp [nameB, h0, h1]
        subst this
        clear hb
        generalize resB s = x at *
        go_enter Tryz.func46, Tryz.ntmps46
        go_wp2_with (go_at_call 70; (with_reducible refine hr.mono ?_); rintro e w1 ⟨rfl, hb1⟩)
        go_ret
        exact ⟨rfl, hb1⟩
      · have : b = false := by rw [← hb]; simp [nameB, h1]
        subst this
        clear hb hr
        have h2 : decide (s.size ≤ 200) = false := decide_eq_false h1
        go_enter Tryz.func46, Tryz.ntmps46
        go_wp2
        go_ret
        exact ⟨rfl, .refl _ _⟩
    · have : b = false := by rw [← hb]; simp [nameB, h0]
      subst this
      clear hb hr
      have h2 : decide (1 ≤ s.size) = false := decide_eq_false h0
      go_enter Tryz.func46, Tryz.ntmps46
      go_wp2
      go_ret
      exact ⟨rfl, .refl _ _⟩
  exact go _ rfl
end
section
theorem ixB_first {es : List (ByteArray × Nat)} {s : ByteArray} {k : Nat} (hk : k < es.length) (he : es[k].1.data.toList = s.data.toList) (hno : ∀ j (h : j < k) (h2 : j < es.length), es[j].1.data.toList ≠ s.data.toList) : ixB es s = k ∧ hasB es s = true := by
  refine ⟨?_, ?_⟩
  · unfold ixB
    rw [List.findIdx_eq hk]
    refine ⟨by simpa using he, fun j hj => ?_⟩
    simpa using hno j hj (by omega)
  · unfold hasB
    rw [List.any_eq_true]
    exact ⟨es[k], List.getElem_mem hk, by rw [he]; exact beq_self_eq_true _⟩
theorem hasB_none {es : List (ByteArray × Nat)} {s : ByteArray} (hno : ∀ j (h2 : j < es.length), es[j].1.data.toList ≠ s.data.toList) : hasB es s = false := by
  unfold hasB
  rw [List.any_eq_false]
  intro e he
  obtain ⟨j, hj, rfl⟩ := List.getElem_of_mem he
  simpa using hno j hj
theorem reserved_names {s : ByteArray} (h : nameB s = true) : s.data.toList ≠ lBool ∧ s.data.toList ≠ lReal := by
  simp only [nameB, Bool.and_eq_true, Bool.not_eq_true'] at h
  have hr := h.2
  constructor
  · intro e
    unfold resB at hr
    rw [e] at hr
    revert hr; decide
  · intro e
    unfold resB at hr
    rw [e] at hr
    revert hr; decide
section
variable {Z R : List Nat} {w w' : World} {r : Nat} {fs : List Fn} {L : List (Nat × Nat)} {AN : Option Addr} {cN : Nat} {AF : Option Addr} {cF : Nat} {vL : Value} {so : List (ByteArray × Nat)}
theorem ref_fsort (h : RfP Z w r R (so.map Prod.fst) fs L AN cN AF cF vL) (hn : so.length ≤ 1000) (s : ByteArray) :
    Calls Tryz.prog 45 #[.pointer (some ⟨r, 0, none⟩), .string s] w fun e w' => e = .returned (.tuple #[.int .i64 (fsI so s), .bool (fsB so s)]) ∧ w = w' := by
  have a0 : w.cell? ⟨r, 0, none⟩ = some (.slice AN so.length cN) := by
    have : w.cell? ⟨r, 0, none⟩ = some (.slice AN (so.map Prod.fst).length cN) := h.bk.cell rfl
    rwa [List.length_map] at this
  have hrd : ∀ k (hk : k < so.length), ∃ b o, AN = some ⟨b, o, none⟩ ∧ w.cell? ⟨b, o + k, none⟩ = some (.string so[k].1) := fun k hk => h.rN.get (by simp [hk])
  replace hrd := hide hrd
  clear h
  by_cases hb : s.data.toList = lBool
  · have e1 : binOp .eql 9 (.string s) (.string ⟨#[66, 111, 111, 108]⟩) = pure (.bool true) := by rw [eql_s, hb]; rfl
    have r1 : fsI so s = 0 := by simp [fsI, hb]
    have r2 : fsB so s = true := by simp [fsB, hb]
    rw [r1, r2]
    clear hb r1 r2
    go_enter Tryz.func45, Tryz.ntmps45
    go_wp2
    go_ret2
    exact ⟨rfl, rfl⟩
  · have e1 : binOp .eql 9 (.string s) (.string ⟨#[66, 111, 111, 108]⟩) = pure (.bool false) := by rw [eql_s]; exact congrArg (fun b => pure (Value.bool b)) (beq_eq_false_iff_ne.2 hb)
    by_cases hr : s.data.toList = lReal
    · have e2 : binOp .eql 9 (.string s) (.string ⟨#[82, 101, 97, 108]⟩) = pure (.bool true) := by rw [eql_s, hr]; rfl
      have r1 : fsI so s = 1 := by simp [fsI, hb, hr]; rintro ⟨⟩
      have r2 : fsB so s = true := by simp [fsB, hr]
      rw [r1, r2]
      clear hb hr r1 r2
      go_enter Tryz.func45, Tryz.ntmps45
      go_wp2
      go_ret2
      exact ⟨rfl, rfl⟩
    · have e2 : binOp .eql 9 (.string s) (.string ⟨#[82, 101, 97, 108]⟩) = pure (.bool false) := by rw [eql_s]; exact congrArg (fun b => pure (Value.bool b)) (beq_eq_false_iff_ne.2 hr)
      have hyes : ∀ k (hk : k < so.length), so[k].1.data.toList = s.data.toList → (∀ j (h : j < k) (h2 : j < so.length), so[j].1.data.toList ≠ s.data.toList) → fsI so s = (k : Int) + 2 ∧ fsB so s = true := by
        intro k hk he hno
        obtain ⟨q1, q2⟩ := ixB_first hk he hno
        exact ⟨by simp [fsI, hb, hr, q2, q1], by simp [fsB, q2]⟩
      have hnone : (∀ j (h2 : j < so.length), so[j].1.data.toList ≠ s.data.toList) → fsI so s = 0 ∧ fsB so s = false := by
        intro hno
        have q2 := hasB_none hno
        exact ⟨by simp [fsI, hb, hr, q2], by simp [fsB, hb, hr, q2]⟩
      obtain ⟨x, hx⟩ : ∃ x, x = fsI so s := ⟨_, rfl⟩
      obtain ⟨y, hy⟩ : ∃ y, y = fsB so s := ⟨_, rfl⟩
      rw [← hx, ← hy]
      rw [← hx, ← hy] at hyes hnone
      replace hyes := hide hyes; replace hnone := hide hnone
      clear hb hr hx hy
      have e3 : ∀ b : ByteArray, binOp .eql 9 (.string b) (.string s) = pure (.bool (b.data.toList == s.data.toList)) := fun b => eql_s _ b s
      replace e3 := hide e3
      obtain ⟨n, hn'⟩ : ∃ n, n = so.length := ⟨_, rfl⟩
      rw [← hn'] at a0 hn
      replace hn' := hide hn'
      go_enter Tryz.func45, Tryz.ntmps45
      go_wp2
      go_loop [6] (fun i => ∃ k : Nat, k ≤ n ∧ i = .int .i64 (k : Int) ∧ ∀ j (h : j < k) (h2 : j < so.length), so[j].1.data.toList ≠ s.data.toList) (fun i => n - (intOf i).toNat)
      case atStart => exact ⟨0, Nat.zero_le _, rfl, by intro j hj; omega⟩
      case round =>
        obtain ⟨k, hk, rfl, hno⟩ := hrel
        by_cases hkn : k < n
        · have hkl : k < so.length := by rw [← hn'.out]; exact hkn
          obtain ⟨b, o, rfl, c0⟩ := hrd.out k hkl
          have e4 := e3.out so[k].1
          by_cases he : so[k].1.data.toList = s.data.toList
          · obtain ⟨rfl, rfl⟩ := hyes.out k hkl he hno
            rw [he, beq_self_eq_true] at e4
            replace he := hide he
            replace hno := hide hno
            generalize so[k].1 = nmk at *
            go_wp2
            go_ret2
            exact ⟨rfl, rfl⟩
          · rw [beq_eq_false_iff_ne.2 he] at e4
            have hno2 := hide (show ∀ j (h : j < k + 1) (h2 : j < so.length), so[j].1.data.toList ≠ s.data.toList from fun j hj h2 => by
              by_cases e : j = k
              · subst e; exact he
              · exact hno j (by omega) h2)
            replace he := hide he
            clear hno
            generalize so[k].1 = nmk at *
            go_wp2
            go_round
            case rel => exact ⟨k + 1, by omega, by go_num, hno2.out⟩
            case measure => simp [intOf]; omega
        · obtain ⟨rfl, rfl⟩ := hnone.out (fun j h2 => hno j (by have := hn'.out; omega) h2)
          have hkd : decide (k < n) = false := decide_eq_false hkn
          clear hno
          go_wp2
          go_ret2
          exact ⟨rfl, rfl⟩
end
theorem app_fresh {t e : TypeId} {z : Value} {size bytes : Nat} (hinf : ∃ i : TypeInfo, Tryz.prog.info? e = some i ∧ i.zero = some z ∧ i.size = size ∧ i.bytes = bytes) (ht : Tryz.prog.underlying t = some (.slice e)) (hzs : z.cells.size = size) (hsz : 0 < size) (w : World)
    (A : Option Addr) (m c : Nat) (news : List Value) (Z : List Nat) (hl : news.length = m * size) (hR : Rv Z w A news) (hone : ∀ u ∈ news, u.oneCell' = true) (hm : m ≤ 10000) (hb : bytes ≤ 1000) (hform : A = none → c = 0) :
    ∃ v1 w2, (∀ ty, (Builtin.append_ #[t, t] ty #[.slice (some ⟨w.heap.size, 0, none⟩) 0 0, .slice A m c]).run Tryz.prog (w.alloc (.cells #[] e)) = .ok v1 w2) ∧ Below w.heap.size w w2 ∧
      ∀ (w2' : World) (x : List Value), Below w2.heap.size w2 w2' → x.length = size → (∀ u ∈ x, u.oneCell' = true) → ∃ g c3 w3, (∀ ty, (Builtin.append_ #[t, t] ty #[v1, .slice (some ⟨w2'.heap.size, 0, none⟩) 1 1]).run Tryz.prog (w2'.alloc (.cells x.toArray e)) = .ok (.slice (some ⟨g, 0, none⟩) (m + 1) c3) w3) ∧
        w3.ownsRow 0 e size (.slice (some ⟨g, 0, none⟩) (m + 1) c3) (m + 1) (news ++ x) ∧ Below w.heap.size w w3 ∧ w.heap.size ≤ g := by
  have hb0 : Below w.heap.size w (w.alloc (.cells #[] e)) := (Below.refl _ _).alloc (Nat.le_refl _) _
  have hR0 : Rv [] (w.alloc (.cells #[] e)) A news := hR.off (Off.of_below hb0 []) (by simp) (by simp)
  obtain ⟨v1, w2, r1, k1, k2, k3⟩ := app_row hinf ht hzs hsz (w.alloc (.cells #[] e)) (.slice (some ⟨w.heap.size, 0, none⟩) 0 0) 0 [] (row_empty w e size) A m c news [] hl hR0 hone (by omega) hb hform
  rw [Nat.zero_add, List.nil_append] at k1
  have hz1 : (w.alloc (.cells #[] e)).heap.size = w.heap.size + 1 := by simp
  have hv1 : ∀ b, v1.ownBlock = some b → w.heap.size ≤ b := fun b hb => by
    rcases k3 b hb with h | h
    · simp [Value.ownBlock] at h; omega
    · omega
  have hb2 : Below w.heap.size w w2 := hb0.trans (k2.below (by omega) (by intro b hb; simp [Value.ownBlock] at hb; omega))
  refine ⟨v1, w2, r1, hb2, fun w2' x hb' hxl hxo => ?_⟩
  have hX : Bk w2'.heap.size x.toArray e (w2'.alloc (.cells x.toArray e)) := Bk.new _ _ _
  have hbA : Below w2'.heap.size w2' (w2'.alloc (.cells x.toArray e)) := (Below.refl _ _).alloc (Nat.le_refl _) _
  have hRx : Rv [] (w2'.alloc (.cells x.toArray e)) (some ⟨w2'.heap.size, 0, none⟩) x := .inr ⟨_, 0, rfl, hX.lt, by simp, fun j u hj => by rw [Nat.zero_add]; exact hX.cell (by rw [← Array.getElem?_toList]; exact hj)⟩
  have hrow : (w2'.alloc (.cells x.toArray e)).ownsRow 0 e size v1 m news := (Off.row k1 (Off.of_below hb' []) (by simp)).alloc _
  obtain ⟨v3, w3, r3, q1, q2, q3⟩ := app_row hinf ht hzs hsz _ v1 m news hrow (some ⟨w2'.heap.size, 0, none⟩) 1 1 x [] (by omega) hRx hxo (by omega) hb (by simp)
  have hv3 : ∃ g c3, v3 = .slice (some ⟨g, 0, none⟩) (m + 1) c3 := by
    rcases q1.2 with ⟨_, h⟩ | ⟨g, cap, cur, rfl, _⟩
    · omega
    · exact ⟨g, cap, rfl⟩
  obtain ⟨g, c3, rfl⟩ := hv3
  have hs2 := hb2.size
  have hs2' := hb'.size
  refine ⟨g, c3, w3, r3, q1, ?_, ?_⟩
  · have h1 : Below w.heap.size w (w2'.alloc (.cells x.toArray e)) := (hb2.trans (hb'.mono hs2)).trans (hbA.mono (by omega))
    exact h1.trans (q2.below h1.size (fun b hb => hv1 b (by rwa [Option.mem_toList] at hb)))
  · rcases q3 g rfl with h | h
    · exact hv1 g h
    · have hz3 : (w2'.alloc (.cells x.toArray e)).heap.size = w2'.heap.size + 1 := by simp
      omega
section
variable {Z R : List Nat} {w w' w3 : World} {r : Nat} {nm : List ByteArray} {fs : List Fn} {L : List (Nat × Nat)} {AN : Option Addr} {cN : Nat} {AF : Option Addr} {cF : Nat} {vL : Value} {so : List (ByteArray × Nat)}
theorem rf_names (h : RfP Z w r R nm fs L AN cN AF cF vL) (hZ : ∀ b ∈ Z, b < w.heap.size) (hb : Below w.heap.size w w3) {g c3 : Nat} {nm' : List ByteArray} (hrow : w3.ownsRow 0 9 1 (.slice (some ⟨g, 0, none⟩) nm'.length c3) nm'.length (nm'.map Value.string)) (hg : w.heap.size ≤ g) :
    RfP Z (w3.setCell ⟨r, 0, none⟩ (.slice (some ⟨g, 0, none⟩) nm'.length c3)) r R nm' fs L (some ⟨g, 0, none⟩) c3 AF cF vL ∧ Off R w (w3.setCell ⟨r, 0, none⟩ (.slice (some ⟨g, 0, none⟩) nm'.length c3)) ∧ w3.cell? ⟨r, 0, none⟩ = some (.slice AN nm.length cN) ∧ w3.frozen? ⟨r, 0, none⟩ = false := by
  have h3 := h.next hb
  have hO : Off [r] w3 (w3.setCell ⟨r, 0, none⟩ (.slice (some ⟨g, 0, none⟩) nm'.length c3)) := (Off.refl _ _).setCell _ _ (.inl (by simp))
  have hrR : r ∈ R := by rw [h.eR]; simp
  have hgn : g ∉ R ++ Z := fun hm => (List.mem_append.1 hm).elim (fun h' => Nat.not_lt.2 hg (h.lt g h')) (fun h' => Nat.not_lt.2 hg (hZ g h'))
  have hsub : ∀ b ∈ [r], b ∈ R ++ Z ∨ w3.heap.size ≤ b := by intro b hb; simp at hb; subst hb; exact .inl (List.mem_append_left _ hrR)
  obtain ⟨vs, f1, f2⟩ := h3.rF
  have hcap : nm'.length ≤ c3 ∧ c3 ≤ maxLen := by
    rcases hrow.2 with ⟨e, _⟩ | ⟨_, cap, cur, e, _, _, q1, q2, _⟩
    · cases e
    · cases e; exact ⟨q1, q2⟩
  have hvr : ∀ k, vL.ownBlock = some k → k ∉ [r] := fun k hk hm => by
    have := h.once
    rw [h.eR, List.nodup_cons] at this
    simp at hm
    subst hm
    exact this.1 (by rw [Option.mem_toList]; exact hk)
  refine ⟨⟨h3.bk.set _ rfl, ⟨hcap.1, hcap.2, by simp⟩, h3.nF, (Rv.of_row hrow (fun k hk => by cases hk; exact hgn)).off hO hsub (fun b hb => .inl hb), ⟨vs, f1.off hO hsub (fun b hb => .inl hb), f2.off hO hsub (fun b hb => .inl hb)⟩, Off.row h3.rL hO hvr, h.eR, h.once, h.ap⟩, ?_, h3.bk.cell rfl, h3.bk.free 0⟩
  exact ((Off.of_below hb R)).trans (hO.more (T' := R) (by intro b hb; simp at hb; subst hb; exact hrR)) (fun b hb => .inl hb)
theorem ref_sort (h : RfP Z w r R (so.map Prod.fst) fs L AN cN AF cF vL) (hZ : ∀ b ∈ Z, b < w.heap.size) (hn : so.length ≤ 1000) (s : ByteArray) (hs : s.size ≤ 9223372036854775807) (hf : freeB so s = true) :
    Calls Tryz.prog 21 #[.pointer (some ⟨r, 0, none⟩), .string s] w fun e w' => e = .returned (.tuple #[.int .i64 ((so.length : Int) + 2), .int .i64 0]) ∧ (∃ AN' cN', RfP Z w' r R (so.map Prod.fst ++ [s]) fs L AN' cN' AF cF vL) ∧ Off R w w' := by
  have h1 := ref_fsort h hn s
  have h2 := ref_name s hs w
  have hnm : nameB s = true := by
    simp only [freeB, Bool.and_eq_true] at hf; exact hf.1
  have hfb : fsB so s = false := by
    obtain ⟨q1, q2⟩ := reserved_names hnm
    unfold freeB at hf
    rw [hnm, Bool.true_and, Bool.not_eq_true'] at hf
    simp [fsB, hf, q1, q2]
  rw [hnm] at h2
  rw [hfb] at h1
  obtain ⟨n, hn'⟩ : ∃ n, n = so.length := ⟨_, rfl⟩
  have hkey : ∀ w1, Below w.heap.size w w1 → (w1.alloc (.cells #[] 9)).cell? ⟨r, 0, none⟩ = some (.slice AN n cN) ∧ ∃ v1 w2, (∀ ty, (Builtin.append_ #[45, 45] ty #[.slice (some ⟨w1.heap.size, 0, none⟩) 0 0, .slice AN n cN]).run Tryz.prog (w1.alloc (.cells #[] 9)) = .ok v1 w2) ∧
      ∃ g c3 w3, (∀ ty, (Builtin.append_ #[45, 45] ty #[v1, .slice (some ⟨w2.heap.size, 0, none⟩) 1 1]).run Tryz.prog (w2.alloc (.cells #[.string s] 9)) = .ok (.slice (some ⟨g, 0, none⟩) (n + 1) c3) w3) ∧ w3.cell? ⟨r, 0, none⟩ = some (.slice AN n cN) ∧ w3.frozen? ⟨r, 0, none⟩ = false ∧
        RfP Z (w3.setCell ⟨r, 0, none⟩ (.slice (some ⟨g, 0, none⟩) (n + 1) c3)) r R (so.map Prod.fst ++ [s]) fs L (some ⟨g, 0, none⟩) c3 AF cF vL ∧ Off R w (w3.setCell ⟨r, 0, none⟩ (.slice (some ⟨g, 0, none⟩) (n + 1) c3)) := by
    intro w1 hb1
    have hp := h.next hb1
    have hZ1 : ∀ b ∈ Z, b < w1.heap.size := fun b hb => Nat.lt_of_lt_of_le (hZ b hb) hb1.size
    have hln : (so.map Prod.fst).length = n := by rw [List.length_map, hn']
    have a0 : w1.cell? ⟨r, 0, none⟩ = some (.slice AN (so.map Prod.fst).length cN) := hp.bk.cell rfl
    rw [hln] at a0
    obtain ⟨v1, w2, r1, b2, hx⟩ := app_fresh infS Tryz.underlying45 rfl (by decide) w1 AN n cN ((so.map Prod.fst).map Value.string) (R ++ Z) (by rw [List.length_map, hln, Nat.mul_one]) hp.rN (by intro u hu; simp at hu; obtain ⟨a, _, rfl⟩ := hu; rfl) (by omega) (by decide) h.nN.2.2
    obtain ⟨g, c3, w3, r3, q1, q2, q3⟩ := hx w2 [.string s] (.refl _ _) rfl (by intro u hu; simp at hu; subst hu; rfl)
    have hlen2 : (so.map Prod.fst ++ [s]).length = n + 1 := by rw [List.length_append, hln]; rfl
    have hrow : w3.ownsRow 0 9 1 (.slice (some ⟨g, 0, none⟩) (so.map Prod.fst ++ [s]).length c3) (so.map Prod.fst ++ [s]).length ((so.map Prod.fst ++ [s]).map Value.string) := by
      rw [hlen2, List.map_append]; exact q1
    obtain ⟨f1, f2, f3, f4⟩ := rf_names hp hZ1 q2 hrow q3
    rw [hlen2] at f1 f2
    rw [hln] at f3
    exact ⟨cell_al a0 _, v1, w2, r1, g, c3, w3, r3, f3, f4, f1, (Off.of_below hb1 R).trans f2 (fun b hb => .inl hb)⟩
  rw [← hn'] at hn ⊢
  replace hn' := hide hn'
  replace hkey := hide hkey
  generalize fsI so s = x at *
  clear h hf hnm hfb hZ
  go_enter Tryz.func21, Tryz.ntmps21
  go_wp2_with first
    | (go_at_call 45; (with_reducible refine h1.mono ?_); rintro e w1 ⟨rfl, rfl⟩)
    | (go_at_call 46; (with_reducible refine h2.mono ?_); rintro e w2 ⟨rfl, hb⟩; obtain ⟨a0, v1, w3, r1, g, c3, w4, r3, a3, f3, hfin⟩ := hkey.out w2 hb; replace hfin := hide hfin; clear hb)
    | (at_builtin; refine wpList_append_run _ rfl _ _ _ rfl _ _ _ _ rfl rfl r1 ?_)
    | (at_builtin; refine wpList_append_run _ rfl _ _ _ rfl _ _ _ _ rfl rfl r3 ?_)
  go_ret2
  exact ⟨rfl, ⟨_, _, hfin.out.1⟩, hfin.out.2⟩
end
end
section
theorem wp_build0 {Q : Exit → Act → World → Prop} {o : Oper} {a : Act} {w : World} {K : Act → World → Prop} (T e k : TypeId) (ho : o.op = .buildSlice T 0 #[]) (hT : Tryz.prog.underlying T = some (.slice e)) (hk : ∀ w, (Go.sizeOf e).run Tryz.prog w = .ok k w)
    (hK : ∀ w', Bk w.heap.size #[] e w' → Below w.heap.size w w' → K (a.put o.dst (.slice (some ⟨w.heap.size, 0, none⟩) 0 0)) w') : Oper.wp Tryz.prog o a w K Q := by
  have h1 := hK (w.alloc (.cells #[] e)) (Bk.new _ _ _) (bel_al _ _)
  unfold Oper.wp
  simp only [execOp, ho]
  go_simp
  simp only [run_underlying hT, Result.andThen_ok, hk]
  go_simp
  exact h1
theorem wp_buildF {Q : Exit → Act → World → Prop} {o : Oper} {a : Act} {w : World} {K : Act → World → Prop} (i : Nat) (nm : ByteArray) (A : Option Addr) (n c : Nat) (rs : Int) (ho : o.op = .buildSlice 46 1 #[(0, .tmp i)]) (hx : a.tmps[i]?.getD undef = .agg #[.string nm, .slice A n c, .int .i64 rs])
    (hK : ∀ w', Bk w.heap.size #[.string nm, .slice A n c, .int .i64 rs] 59 w' → Below w.heap.size w w' → K (a.put o.dst (.slice (some ⟨w.heap.size, 0, none⟩) 1 1)) w') : Oper.wp Tryz.prog o a w K Q := by
  have h1 := hK (w.alloc (.cells #[.string nm, .slice A n c, .int .i64 rs] 59)) (Bk.new _ _ _) (bel_al _ _)
  clear hK
  unfold Oper.wp
  simp only [execOp, ho]
  go_simp
  exact h1
structure St (w2 : World) (vs : List Value) (n : Nat) (W : World) (x y : Option Nat) (v : Option Value) : Prop where
  bl : Below w2.heap.size w2 W
  hx : ∀ X, x = some X → Bk X #[] 59 W ∧ w2.heap.size ≤ X
  hy : ∀ Y, y = some Y → Bk Y #[] 3 W ∧ w2.heap.size ≤ Y ∧ x ≠ some Y
  hv : ∀ u, v = some u → W.ownsRow 0 59 3 u n vs ∧ ∀ b, u.ownBlock = some b → w2.heap.size ≤ b ∧ y ≠ some b
structure Mid (w2 : World) (vs : List Value) (n : Nat) (ar : List Int) (W : World) (u : Value) (A2 : Option Addr) (c2 : Nat) : Prop where
  bl : Below w2.heap.size w2 W
  hv : W.ownsRow 0 59 3 u n vs
  h1 : ∀ b, u.ownBlock = some b → w2.heap.size ≤ b
  hi : W.ownsRow 0 3 1 (.slice A2 ar.length c2) ar.length (ar.map fun x => Value.int .i64 x)
  h2 : ∀ b, (Value.slice A2 ar.length c2).ownBlock = some b → w2.heap.size ≤ b ∧ u.ownBlock ≠ some b
section
variable {w2 W W' : World} {vs : List Value} {n : Nat} {x y : Option Nat} {v : Option Value} {ar : List Int}
theorem St.start (w2 : World) (vs : List Value) (n : Nat) (hb : Below w2.heap.size w2 W) : St w2 vs n W none none none := ⟨hb, by simp, by simp, by simp⟩
theorem St.a1 (h : St w2 vs n W none y none) (hB : Bk W.heap.size #[] 59 W') (hb : Below W.heap.size W W') : St w2 vs n W' (some W.heap.size) y none := by
  have hs := h.bl.size
  refine ⟨h.bl.trans (hb.mono hs), fun X hX => ?_, fun Y hY => ?_, by simp⟩
  · cases hX; exact ⟨hB, hs⟩
  · obtain ⟨k1, k2, k3⟩ := h.hy Y hY
    exact ⟨k1.next hb, k2, fun e => by cases e; exact Nat.lt_irrefl _ k1.lt⟩
theorem St.a9 (h : St w2 vs n W x none v) (hB : Bk W.heap.size #[] 3 W') (hb : Below W.heap.size W W') : St w2 vs n W' x (some W.heap.size) v := by
  have hs := h.bl.size
  refine ⟨h.bl.trans (hb.mono hs), fun X hX => ⟨(h.hx X hX).1.next hb, (h.hx X hX).2⟩, fun Y hY => ?_, fun u hu => ?_⟩
  · cases hY
    exact ⟨hB, hs, fun e => Nat.lt_irrefl _ (h.hx _ e).1.lt⟩
  · obtain ⟨k1, k2⟩ := h.hv u hu
    exact ⟨Off.row k1 (Off.of_below hb []) (by simp), fun b hb' => ⟨(k2 b hb').1, fun e => by cases e; exact Nat.lt_irrefl _ (row_lt k1 hb')⟩⟩
theorem row_bk {X e size : Nat} (h : Bk X #[] e W) : W.ownsRow 0 e size (.slice (some ⟨X, 0, none⟩) 0 0) 0 [] := ⟨by simp, .inr ⟨X, 0, #[], rfl, Nat.zero_le _, h, Nat.le_refl _, Nat.zero_le _, by simp, by simp⟩⟩
theorem St.p6 {X : Nat} (h : St w2 vs n W (some X) y none) (A : Option Addr) (c : Nat) (Z : List Nat) (hR : Rv Z w2 A vs) (hl : vs.length = n * 3) (hone : ∀ u ∈ vs, u.oneCell' = true) (hn : n ≤ 1000) (hform : A = none → c = 0) :
    ∃ r W', (∀ t', (Builtin.append_ #[46, 46] t' #[.slice (some ⟨X, 0, none⟩) 0 0, .slice A n c]).run Tryz.prog W = .ok r W') ∧ St w2 vs n W' none y (some r) := by
  obtain ⟨hX, hXb⟩ := h.hx X rfl
  have hs := h.bl.size
  obtain ⟨r, W', h1, k1, k2, k3⟩ := app_row infF Tryz.underlying46 rfl (by decide) W _ 0 [] (row_bk hX) A n c vs [] hl (hR.off (Off.of_below h.bl []) (by simp) (by simp)) hone (by omega) (by decide) hform
  rw [Nat.zero_add, List.nil_append] at k1
  have hk : ∀ b ∈ (Value.slice (some ⟨X, 0, none⟩) 0 0).ownBlock.toList, b = X := by intro b hb; simpa [Value.ownBlock] using hb
  refine ⟨r, W', h1, h.bl.trans (k2.below hs (fun b hb => by rw [hk b hb]; exact hXb)), by simp, fun Y hY => ?_, fun u hu => ?_⟩
  · obtain ⟨q1, q2, q3⟩ := h.hy Y hY
    exact ⟨q1.off k2 (fun hm => q3 (by rw [hk Y hm])), q2, by simp⟩
  · cases hu
    refine ⟨k1, fun b hb => ?_⟩
    rcases k3 b hb with e | e
    · have : b = X := by simp [Value.ownBlock] at e; exact e.symm
      subst this
      exact ⟨hXb, fun e2 => (h.hy b e2).2.2 rfl⟩
    · exact ⟨by omega, fun e2 => by have := (h.hy b e2).1.lt; omega⟩
theorem rv_ints {Z : List Nat} {A : Option Addr} (h : Ir Z W A ar) : Rv Z W A (ar.map fun x => Value.int .i64 x) := by
  rcases h with h | ⟨b, o, h1, h2, h3, h4⟩
  · exact .inl (by rw [h]; rfl)
  · refine .inr ⟨b, o, h1, h2, h3, fun j u hj => ?_⟩
    rw [List.getElem?_map] at hj
    have hlt : j < ar.length := by
      rcases Nat.lt_or_ge j ar.length with h | h
      · exact h
      · rw [List.getElem?_eq_none h] at hj; cases hj
    rw [List.getElem?_eq_getElem hlt] at hj
    simp at hj
    subst hj
    have := h4 j hlt
    rw [this]
    simp [List.getD, List.getElem?_eq_getElem hlt]
theorem St.p12 {Y : Nat} {u : Value} (h : St w2 vs n W none (some Y) (some u)) (A : Option Addr) (c : Nat) (Z : List Nat) (hR : Ir Z w2 A ar) (hn : ar.length ≤ 1000) (hform : A = none → c = 0) :
    ∃ r W', (∀ t', (Builtin.append_ #[57, 57] t' #[.slice (some ⟨Y, 0, none⟩) 0 0, .slice A ar.length c]).run Tryz.prog W = .ok r W') ∧ ∃ A2 c2, r = .slice A2 ar.length c2 ∧ Mid w2 vs n ar W' u A2 c2 := by
  obtain ⟨hY, hYb, _⟩ := h.hy Y rfl
  obtain ⟨hv, hvb⟩ := h.hv u rfl
  have hs := h.bl.size
  obtain ⟨r, W', h1, k1, k2, k3⟩ := app_row infI Tryz.underlying57 rfl (by decide) W _ 0 [] (row_bk hY) A ar.length c (ar.map fun x => Value.int .i64 x) [] (by simp) (rv_ints (hR.off (Off.of_below h.bl []) (by simp) (by simp))) (by intro u hu; simp only [List.mem_map] at hu; obtain ⟨x, _, rfl⟩ := hu; rfl) (by omega) (by decide) hform
  rw [Nat.zero_add, List.nil_append] at k1
  have hk : ∀ b ∈ (Value.slice (some ⟨Y, 0, none⟩) 0 0).ownBlock.toList, b = Y := by intro b hb; simpa [Value.ownBlock] using hb
  have hform2 : ∃ A2 c2, r = .slice A2 ar.length c2 := by
    rcases k1.2 with ⟨e, h⟩ | ⟨g, cap, cu, e, _⟩
    · exact ⟨none, 0, by rw [e, h]⟩
    · exact ⟨_, _, e⟩
  obtain ⟨A2, c2, rfl⟩ := hform2
  refine ⟨_, W', h1, A2, c2, rfl, h.bl.trans (k2.below hs (fun b hb => by rw [hk b hb]; exact hYb)), Off.row hv k2 (fun b hb hm => ?_), fun b hb => (hvb b hb).1, k1, fun b hb => ?_⟩
  · have := hk b hm
    subst this
    exact (hvb b hb).2 rfl
  · rcases k3 b hb with e | e
    · have : b = Y := by simp [Value.ownBlock] at e; exact e.symm
      subst this
      exact ⟨hYb, fun e2 => (hvb b e2).2 rfl⟩
    · exact ⟨by omega, fun e2 => by have := row_lt hv e2; omega⟩
theorem Mid.p17 {u : Value} {A2 : Option Addr} {c2 : Nat} {nm : ByteArray} {rs : Int} {W1 : World} (h : Mid w2 vs n ar W u A2 c2) (hB : Bk W.heap.size #[.string nm, .slice A2 ar.length c2, .int .i64 rs] 59 W1) (hb : Below W.heap.size W W1) (hn : n ≤ 1000) :
    ∃ r W', (∀ t', (Builtin.append_ #[46, 46] t' #[u, .slice (some ⟨W.heap.size, 0, none⟩) 1 1]).run Tryz.prog W1 = .ok r W') ∧ ∃ g c3, r = .slice (some ⟨g, 0, none⟩) (n + 1) c3 ∧ w2.heap.size ≤ g ∧ Below w2.heap.size w2 W' ∧
      W'.ownsRow 0 59 3 (.slice (some ⟨g, 0, none⟩) (n + 1) c3) (n + 1) (vs ++ [.string nm, .slice A2 ar.length c2, .int .i64 rs]) ∧ ∀ Z : List Nat, (∀ b ∈ Z, b < w2.heap.size) → Ir Z W' A2 ar := by
  have hs := h.bl.size
  have hs1 := hb.size
  have hRx : Rv [] W1 (some ⟨W.heap.size, 0, none⟩) [.string nm, .slice A2 ar.length c2, .int .i64 rs] := .inr ⟨_, 0, rfl, hB.lt, by simp, fun j u hj => by rw [Nat.zero_add]; exact hB.cell (by rw [← Array.getElem?_toList]; exact hj)⟩
  obtain ⟨r, W', h1, k1, k2, k3⟩ := app_row infF Tryz.underlying46 rfl (by decide) W1 u n vs (Off.row h.hv (Off.of_below hb []) (by simp)) (some ⟨W.heap.size, 0, none⟩) 1 1 [.string nm, .slice A2 ar.length c2, .int .i64 rs] [] rfl hRx (by intro u hu; simp at hu; rcases hu with rfl | rfl | rfl <;> rfl) (by omega) (by decide) (by simp)
  have hform2 : ∃ g c3, r = .slice (some ⟨g, 0, none⟩) (n + 1) c3 := by
    rcases k1.2 with ⟨_, h⟩ | ⟨g, cap, cu, e, _⟩
    · omega
    · exact ⟨_, _, e⟩
  obtain ⟨g, c3, rfl⟩ := hform2
  have hi1 := Off.row h.hi (Off.of_below hb []) (by simp)
  have hi2 := Off.row hi1 k2 (fun b hb' hm => (h.h2 b hb').2 (by rwa [Option.mem_toList] at hm))
  refine ⟨_, W', h1, g, c3, rfl, ?_, ?_, k1, fun Z hZ => ?_⟩
  · rcases k3 g rfl with e | e
    · exact h.h1 g e
    · omega
  · exact (h.bl.trans (hb.mono hs)).trans (k2.below (by omega) (fun b hb' => h.h1 b (by rwa [Option.mem_toList] at hb')))
  · have hr := Rv.of_row (Z := Z) hi2 (fun k hk hm => Nat.not_lt.2 (h.h2 k hk).1 (hZ k hm))
    rcases hr with e | ⟨b, o, e1, e2, e3, e4⟩
    · exact .inl (by simpa using e)
    · exact .inr ⟨b, o, e1, e2, e3, fun j hj => e4 j _ (by rw [List.getElem?_map, List.getElem?_eq_getElem hj]; simp [List.getD, List.getElem?_eq_getElem hj])⟩
end
end
section
section
variable {Z R : List Nat} {w w' w3 : World} {r : Nat} {nm : List ByteArray} {fs : List Fn} {L : List (Nat × Nat)} {AN : Option Addr} {cN : Nat} {AF : Option Addr} {cF : Nat} {vL : Value}
theorem ref_find_no (h : RfP Z w r R nm fs L AN cN AF cF vL) (hn : fs.length ≤ 1000) (s : ByteArray) (hno : ∀ j (h2 : j < fs.length), fs[j].nm.data.toList ≠ s.data.toList) :
    Calls Tryz.prog 49 #[.pointer (some ⟨r, 0, none⟩), .string s] w fun e w' => e = .returned (.tuple #[.agg #[.string ⟨#[]⟩, .slice none 0 0, .int .i64 0], .bool false]) ∧ Below w.heap.size w w' := by
  obtain ⟨W0, hW0⟩ : ∃ W, W = w.alloc (.cells #[.string ⟨#[]⟩, .slice none 0 0, .int .i64 0] 59) := ⟨_, rfl⟩
  have hX : Bk w.heap.size #[.string ⟨#[]⟩, .slice none 0 0, .int .i64 0] 59 W0 := by rw [hW0]; exact Bk.new _ _ _
  have hb0 : Below w.heap.size w W0 := by rw [hW0]; exact bel_al _ _
  have h0 := h.next hb0
  have a1 : W0.cell? ⟨r, 1, none⟩ = some (.slice AF fs.length cF) := h0.bk.cell rfl
  have hrd : ∀ k (hk : k < fs.length), ∃ b o, AF = some ⟨b, o, none⟩ ∧ W0.cell? ⟨b, o + k * 3, none⟩ = some (.string fs[k].nm) := by
    intro k hk
    obtain ⟨vs, f1, f2⟩ := h0.rF
    obtain ⟨A, c, q0, _⟩ := Fs.get f2 k hk
    exact f1.get q0
  have hend : Below w.heap.size w (((W0.setCell ⟨w.heap.size, 0, none⟩ (.string ⟨#[]⟩)).setCell ⟨w.heap.size, 1, none⟩ (.slice none 0 0)).setCell ⟨w.heap.size, 2, none⟩ (.int .i64 0)) := by
    have hO : Off [w.heap.size] W0 (((W0.setCell ⟨w.heap.size, 0, none⟩ (.string ⟨#[]⟩)).setCell ⟨w.heap.size, 1, none⟩ (.slice none 0 0)).setCell ⟨w.heap.size, 2, none⟩ (.int .i64 0)) :=
      (((Off.refl _ _).setCell _ _ (.inl (by simp))).setCell _ _ (.inl (by simp))).setCell _ _ (.inl (by simp))
    exact hb0.trans (hO.below hb0.size (by intro b hb; simp at hb; omega))
  have d0 : W0.cell? ⟨w.heap.size, 0, none⟩ = some (.string ⟨#[]⟩) := hX.cell rfl
  have d1 : W0.cell? ⟨w.heap.size, 1, none⟩ = some (.slice none 0 0) := hX.cell rfl
  have d2 : W0.cell? ⟨w.heap.size, 2, none⟩ = some (.int .i64 0) := hX.cell rfl
  have f0 := hX.free 0
  have f1 := hX.free 1
  have f2 := hX.free 2
  have e3 : ∀ b : ByteArray, binOp .eql 9 (.string b) (.string s) = pure (.bool (b.data.toList == s.data.toList)) := fun b => eql_s _ b s
  have hW := hide hW0
  replace hrd := hide hrd; replace hend := hide hend; replace e3 := hide e3
  clear h h0 hX hb0 hW0
  obtain ⟨n, hn'⟩ : ∃ n, n = fs.length := ⟨_, rfl⟩
  rw [← hn'] at a1 hn
  replace hn' := hide hn'
  replace hno := hide hno
  go_enter Tryz.func49, Tryz.ntmps49
  go_wp2
  rw [← hW.out]
  go_loop [6] (fun i => ∃ k : Nat, k ≤ n ∧ i = .int .i64 (k : Int)) (fun i => n - (intOf i).toNat)
  case atStart => exact ⟨0, Nat.zero_le _, rfl⟩
  case round =>
    obtain ⟨k, hk, rfl⟩ := hrel
    by_cases hkn : k < n
    · have hkl : k < fs.length := by rw [← hn'.out]; exact hkn
      obtain ⟨b, o, rfl, c0⟩ := hrd.out k hkl
      have e4 := e3.out fs[k].nm
      rw [beq_eq_false_iff_ne.2 (hno.out k hkl)] at e4
      generalize fs[k].nm = nmk at *
      go_wp2
      go_round
      case rel => exact ⟨k + 1, by omega, by go_num⟩
      case measure => simp [intOf]; omega
    · have hkd : decide (k < n) = false := decide_eq_false hkn
      go_wp2
      exact bodyPost_ret (v := .tuple #[.agg #[.string ⟨#[]⟩, .slice none 0 0, .int .i64 0], .bool false]) (by simp [results, Tryz.results49, go_sem, d0, d1, d2]) rfl ⟨rfl, hend.out⟩
theorem rf_funs (h : RfP Z w r R nm fs L AN cN AF cF vL) (hZ : ∀ b ∈ Z, b < w.heap.size) (hb : Below w.heap.size w w3) {g c3 : Nat} {fs' : List Fn} {vs : List Value} (hrow : w3.ownsRow 0 59 3 (.slice (some ⟨g, 0, none⟩) fs'.length c3) fs'.length vs) (hg : w.heap.size ≤ g) (hF : Fs (R ++ Z) w3 fs' vs) :
    RfP Z (w3.setCell ⟨r, 1, none⟩ (.slice (some ⟨g, 0, none⟩) fs'.length c3)) r R nm fs' L AN cN (some ⟨g, 0, none⟩) c3 vL ∧ Off R w (w3.setCell ⟨r, 1, none⟩ (.slice (some ⟨g, 0, none⟩) fs'.length c3)) ∧ w3.cell? ⟨r, 1, none⟩ = some (.slice AF fs.length cF) ∧ w3.frozen? ⟨r, 1, none⟩ = false := by
  have h3 := h.next hb
  have hO : Off [r] w3 (w3.setCell ⟨r, 1, none⟩ (.slice (some ⟨g, 0, none⟩) fs'.length c3)) := (Off.refl _ _).setCell _ _ (.inl (by simp))
  have hrR : r ∈ R := by rw [h.eR]; simp
  have hgn : g ∉ R ++ Z := fun hm => (List.mem_append.1 hm).elim (fun h' => Nat.not_lt.2 hg (h.lt g h')) (fun h' => Nat.not_lt.2 hg (hZ g h'))
  have hsub : ∀ b ∈ [r], b ∈ R ++ Z ∨ w3.heap.size ≤ b := by intro b hb; simp at hb; subst hb; exact .inl (List.mem_append_left _ hrR)
  have hcap : fs'.length ≤ c3 ∧ c3 ≤ maxLen := by
    rcases hrow.2 with ⟨e, _⟩ | ⟨_, cap, cur, e, _, _, q1, q2, _⟩
    · cases e
    · cases e; exact ⟨q1, q2⟩
  have hvr : ∀ k, vL.ownBlock = some k → k ∉ [r] := fun k hk hm => by
    have := h.once
    rw [h.eR, List.nodup_cons] at this
    simp at hm
    subst hm
    exact this.1 (by rw [Option.mem_toList]; exact hk)
  refine ⟨⟨h3.bk.set _ rfl, h3.nN, ⟨hcap.1, hcap.2, by simp⟩, h3.rN.off hO hsub (fun b hb => .inl hb), ⟨vs, (Rv.of_row hrow (fun k hk => by cases hk; exact hgn)).off hO hsub (fun b hb => .inl hb), hF.off hO hsub (fun b hb => .inl hb)⟩, Off.row h3.rL hO hvr, h.eR, h.once, h.ap⟩, ?_, h3.bk.cell rfl, h3.bk.free 1⟩
  exact ((Off.of_below hb R)).trans (hO.more (T' := R) (by intro b hb; simp at hb; subst hb; exact hrR)) (fun b hb => .inl hb)
theorem Fs.one {T : List Nat} : ∀ {fs : List Fn} {vs : List Value}, Fs T w fs vs → ∀ u ∈ vs, u.oneCell' = true
  | [], vs, h, u, hu => by cases h; simp at hu
  | f :: fs, vs, ⟨A, c, r, e, _, _, h⟩, u, hu => by
    subst e
    simp only [List.mem_cons] at hu
    rcases hu with rfl | rfl | rfl | hu
    · rfl
    · rfl
    · rfl
    · exact Fs.one h u hu
theorem ref_fun (h : RfP Z w r R nm fs L AN cN AF cF vL) (hZ : ∀ b ∈ Z, b < w.heap.size) (hnn : nm.length ≤ 1000) (hfl : fs.length < 1000) (nf : ByteArray) (B : Option Addr) (ar : List Int) (d : Nat) (rs : Int) (hi : Ir [] w B ar) (hd : B = none → d = 0) (hs : nf.size ≤ 9223372036854775807)
    (hf : nameB nf = true) (hno : ∀ j (h2 : j < fs.length), fs[j].nm.data.toList ≠ nf.data.toList) (ht : typedB nm.length ar rs = true) :
    Calls Tryz.prog 24 #[.pointer (some ⟨r, 0, none⟩), .agg #[.string nf, .slice B ar.length d, .int .i64 rs]] w fun e w' => e = .returned (.int .i64 0) ∧ (∃ AF' cF', RfP Z w' r R nm (fs ++ [⟨nf, ar, rs⟩]) L AN cN AF' cF' vL) ∧ Off R w w' := by
  obtain ⟨hal, hkr, hka⟩ : ar.length ≤ 64 ∧ knownB nm.length rs = true ∧ ∀ k (hk : k < ar.length), ar[k] ≠ 0 ∧ knownB nm.length ar[k] = true := by
    simp only [typedB, Bool.and_eq_true, decide_eq_true_eq, List.all_eq_true] at ht
    refine ⟨ht.1.1, ht.1.2, fun k hk => ?_⟩
    have := ht.2 ar[k] (List.getElem_mem hk)
    simp only [argB, Bool.and_eq_true, decide_eq_true_eq] at this
    exact this
  obtain ⟨W0, hW0⟩ : ∃ W, W = w.alloc (.cells #[.string nf, .slice B ar.length d, .int .i64 rs] 59) := ⟨_, rfl⟩
  have hX : Bk w.heap.size #[.string nf, .slice B ar.length d, .int .i64 rs] 59 W0 := by rw [hW0]; exact Bk.new _ _ _
  have hb0 : Below w.heap.size w W0 := by rw [hW0]; exact bel_al _ _
  have hfind := ref_find_no (h.next hb0) (by omega) nf hno
  have x0 : W0.cell? ⟨w.heap.size, 0, none⟩ = some (.string nf) := hX.cell rfl
  have hgl : w.heap.size < W0.heap.size := hX.lt
  have hk2 : ∀ W2, Below W0.heap.size W0 W2 → ∀ W, Below W2.heap.size W2 W → (W.cell? ⟨w.heap.size, 0, none⟩ = some (.string nf) ∧ W.cell? ⟨w.heap.size, 1, none⟩ = some (.slice B ar.length d) ∧ W.cell? ⟨w.heap.size, 2, none⟩ = some (.int .i64 rs) ∧ W.cell? ⟨r, 1, none⟩ = some (.slice AF fs.length cF)) ∧ Below W2.heap.size W2 W := by
    intro W2 hb2 W hb
    have hbb : Below W0.heap.size W0 W := hb2.trans (hb.mono hb2.size)
    have hB := hX.next hbb
    exact ⟨⟨hB.cell rfl, hB.cell rfl, hB.cell rfl, ((h.next hb0).next hbb).bk.cell rfl⟩, hb⟩
  have hk3 : ∀ W2, Below W0.heap.size W0 W2 → RfP Z W2 r R nm fs L AN cN AF cF vL ∧ Ir [] W2 B ar ∧ Below w.heap.size w W2 := by
    intro W2 hb2
    have hbw : Below w.heap.size w W2 := hb0.trans (hb2.mono hb0.size)
    exact ⟨h.next hbw, hi.off (Off.of_below hbw []) (by simp) (by simp), hbw⟩
  have hname : ∀ W, Calls Tryz.prog 46 #[.string nf] W fun e w' => e = .returned (.bool true) ∧ Below W.heap.size W w' := fun W => by
    have := ref_name nf hs W
    rwa [hf] at this
  have his : ∀ W2, RfP Z W2 r R nm fs L AN cN AF cF vL → ∀ x, knownB nm.length x = true → Calls Tryz.prog 50 #[.pointer (some ⟨r, 0, none⟩), .int .i64 x] W2 fun e w' => e = .returned (.bool true) ∧ W2 = w' := fun W2 h2 x hx => by
    have := ref_is h2 (by omega) x
    rwa [hx] at this
  have hfin : ∀ W2, RfP Z W2 r R nm fs L AN cN AF cF vL → Below w.heap.size w W2 → ∃ vs, vs.length = fs.length * 3 ∧ Rv (R ++ Z) W2 AF vs ∧ (∀ u ∈ vs, u.oneCell' = true) ∧ ∀ (g c3 : Nat) (A2 : Option Addr) (c2 : Nat) (W' : World), W2.heap.size ≤ g → Below W2.heap.size W2 W' → W'.ownsRow 0 59 3 (.slice (some ⟨g, 0, none⟩) (fs.length + 1) c3) (fs.length + 1) (vs ++ [.string nf, .slice A2 ar.length c2, .int .i64 rs]) →
      (∀ Z' : List Nat, (∀ b ∈ Z', b < W2.heap.size) → Ir Z' W' A2 ar) → W'.cell? ⟨r, 1, none⟩ = some (.slice AF fs.length cF) ∧ W'.frozen? ⟨r, 1, none⟩ = false ∧ RfP Z (W'.setCell ⟨r, 1, none⟩ (.slice (some ⟨g, 0, none⟩) (fs.length + 1) c3)) r R nm (fs ++ [⟨nf, ar, rs⟩]) L AN cN (some ⟨g, 0, none⟩) c3 vL ∧ Off R w (W'.setCell ⟨r, 1, none⟩ (.slice (some ⟨g, 0, none⟩) (fs.length + 1) c3)) := by
    intro W2 h2 hb2
    obtain ⟨vs, f1, f2⟩ := h2.rF
    refine ⟨vs, Fs.length f2, f1, Fs.one f2, fun g c3 A2 c2 W' hg hb hrow hI => ?_⟩
    have hZ2 : ∀ b ∈ Z, b < W2.heap.size := fun b hb => Nat.lt_of_lt_of_le (hZ b hb) hb2.size
    have hRZ : ∀ b ∈ R ++ Z, b < W2.heap.size := fun b hb => (List.mem_append.1 hb).elim (h2.lt b) (hZ2 b)
    have hlen : (fs ++ [⟨nf, ar, rs⟩] : List Fn).length = fs.length + 1 := by simp
    have hF' : Fs (R ++ Z) W' (fs ++ [⟨nf, ar, rs⟩]) (vs ++ [.string nf, .slice A2 ar.length c2, .int .i64 rs]) := Fs.snoc (f := ⟨nf, ar, rs⟩) (hI _ hRZ) hal (f2.off (Off.of_below hb []) (by simp) (fun b hb => .inl hb))
    rw [← hlen] at hrow ⊢
    obtain ⟨k1, k2, k3, k4⟩ := rf_funs h2 hZ2 hb hrow hg hF'
    exact ⟨k3, k4, k1, (Off.of_below hb2 R).trans k2 (fun b hb => .inl hb)⟩
  have hcF := h.nF.2.2
  obtain ⟨n, hn⟩ : ∃ n, n = fs.length := ⟨_, rfl⟩
  obtain ⟨m, hm⟩ : ∃ m, m = ar.length := ⟨_, rfl⟩
  simp only [← hn, ← hm] at hk2
  simp only [← hn] at hfin
  rw [← hn] at hfl
  have hm64 : m ≤ 64 := by omega
  have hargs : ∀ W2, Ir [] W2 B ar → ∀ k (hk : k < m), ∃ b o x, B = some ⟨b, o, none⟩ ∧ W2.cell? ⟨b, o + k, none⟩ = some (.int .i64 x) ∧ x ≠ 0 ∧ knownB nm.length x = true := by
    intro W2 hI k hk
    have hkl : k < ar.length := by omega
    rcases hI with e | ⟨b, o, e1, _, _, e4⟩
    · rw [e] at hkl; simp at hkl
    · refine ⟨b, o, ar[k], e1, ?_, (hka k hkl).1, (hka k hkl).2⟩
      rw [e4 k hkl]; simp [List.getD, List.getElem?_eq_getElem hkl]
  rw [← hm] at hW0 ⊢
  have hW := hide hW0
  replace hk2 := hide hk2; replace hk3 := hide hk3; replace hname := hide hname; replace his := hide his; replace hfin := hide hfin; replace hfind := hide hfind; replace hargs := hide hargs; replace hkr := hide hkr; replace hn := hide hn; replace hm := hide hm; replace hcF := hide hcF; replace hd := hide hd
  clear h hX hb0 hf ht hno hi hZ hal hka hW0
  go_enter Tryz.func24, Tryz.ntmps24
  go_wp2_with first
    | (go_at_call 49; rw [← hW.out]; (with_reducible refine hfind.out.mono ?_); rintro e w1 ⟨rfl, hb1⟩; have y0 := (hk2.out w1 hb1 (w1.alloc (.cells #[.string ⟨#[]⟩, .slice none 0 0, .int .i64 0] 59)) (bel_al _ _)).1.1; have hbA : Hid (Below W0.heap.size W0 (w1.alloc (.cells #[.string ⟨#[]⟩, .slice none 0 0, .int .i64 0] 59))) := hide (hb1.trans ((bel_al w1 _).mono hb1.size)); clear hb1)
    | (go_at_call 46; (with_reducible refine (hname.out _).mono ?_); rintro e w2 ⟨rfl, hb⟩; have hb2 := hbA.out.trans (hb.mono hbA.out.size); obtain ⟨⟨x0, x1, x2, x3⟩, -⟩ := hk2.out w2 hb2 w2 (.refl _ _); obtain ⟨hR2, hI2, hbw2⟩ := hk3.out w2 hb2; have his2 := hide (his.out w2 hR2); replace hb2 := hide hb2; replace hR2 := hide hR2; replace hI2 := hide hI2; replace hbw2 := hide hbw2; clear hb y0 hbA)
    | (go_at_call 50; (with_reducible refine (his2.out rs hkr.out).mono ?_); rintro e w3 ⟨rfl, rfl⟩)
  go_loop [7] (fun i => ∃ k : Nat, k ≤ m ∧ i = .int .i64 (k : Int)) (fun i => m - (intOf i).toNat)
  case atStart => exact ⟨0, Nat.zero_le _, rfl⟩
  case round =>
    obtain ⟨k, hk, rfl⟩ := hrel
    by_cases hkm : k < m
    · obtain ⟨b, o, x, rfl, c0, hx0, hxk⟩ := hargs.out w2 hI2.out k hkm
      have hxz : (x == 0) = false := beq_eq_false_iff_ne.2 hx0
      have his3 := his2.out x hxk
      clear hxk hx0
      go_wp2_with (go_at_call 50; (with_reducible refine his3.mono ?_); rintro e w3 ⟨rfl, rfl⟩)
      go_round
      case rel => exact ⟨k + 1, by omega, by go_num⟩
      case measure => simp [intOf]; omega
    · have hkd : decide (k < m) = false := decide_eq_false hkm
      have hnd : decide (1000 ≤ n) = false := decide_eq_false (by omega)
      obtain ⟨vs, fl, f1, fo, hfin2⟩ := hfin.out w2 hR2.out hbw2.out
      have st := St.start (W := w2.drew) w2 vs n (bel_drew w2)
      replace fl := hide fl; replace f1 := hide f1; replace fo := hide fo; replace hfin2 := hide hfin2; replace st := hide st
      go_wp2
      refine wp_region_T (fun W => (W.cell? ⟨w.heap.size, 0, none⟩ = some (.string nf) ∧ W.cell? ⟨w.heap.size, 1, none⟩ = some (.slice B m d) ∧ W.cell? ⟨w.heap.size, 2, none⟩ = some (.int .i64 rs) ∧ W.cell? ⟨r, 1, none⟩ = some (.slice AF n cF)) ∧ Below w2.heap.size w2 W) 20 (by kernel_rfl) (hk2.out w2 hb2.out _ (bel_drew w2)) (fun hHeld => ?_)
      refine tkT 0 (h := ?_)
      refine tkT 2 (h := ?_)
      refine tkT 3 (h := ?_)
      refine tkT 4 (h := ?_)
      refine tkT 5 (h := ?_)
      refine tkT 7 (h := ?_)
      refine tkT 8 (h := ?_)
      refine tkT 10 (h := ?_)
      refine tkT 11 (h := ?_)
      refine tkT 13 (h := ?_)
      refine tkT 14 (h := ?_)
      refine rd2T 1 9 (h0 := fun K hK => ?_) (h1 := fun K hK => ?_)
      · rw [if_pos (by rfl)]
        refine wp_build0 46 59 3 rfl Tryz.underlying46 Tryz.sizeOf59 ?_
        intro W1 hB1 hb1
        have st := hide (St.a1 st.out hB1 hb1)
        refine kT hK (by first | exact hk2.out w2 hb2.out _ st.out.bl | exact hk2.out w2 hb2.out _ md.out.bl | exact hk2.out w2 hb2.out _ hb16.out | exact hk2.out w2 hb2.out _ hb17.out) (h := fun hHeld => ?_)
        (try clear hK K)
        refine rd2T 6 9 (h0 := fun K hK => ?_) (h1 := fun K hK => ?_)
        · rw [if_pos (by rfl)]
          refine wp_append_ex (.tmp 65) (.tmp 69) 46 rfl (.slice (some ⟨_, 0, none⟩) 0 0) (.slice AF n cF) rfl rfl _ (St.p6 st.out AF cF (R ++ Z) f1.out fl.out fo.out (by omega) hcF.out) ?_
          rintro v1 W6 st
          replace st := hide st
          refine kT hK (by first | exact hk2.out w2 hb2.out _ st.out.bl | exact hk2.out w2 hb2.out _ md.out.bl | exact hk2.out w2 hb2.out _ hb16.out | exact hk2.out w2 hb2.out _ hb17.out) (h := fun hHeld => ?_)
          (try clear hK K)
          refine rdT 9 (h := fun K hK => ?_)
          rw [if_pos (by rfl)]
          refine wp_build0 57 3 1 rfl Tryz.underlying57 Tryz.sizeOf3 ?_
          intro W9 hB9 hb9
          have st := hide (St.a9 st.out hB9 hb9)
          refine kT hK (by first | exact hk2.out w2 hb2.out _ st.out.bl | exact hk2.out w2 hb2.out _ md.out.bl | exact hk2.out w2 hb2.out _ hb16.out | exact hk2.out w2 hb2.out _ hb17.out) (h := fun hHeld => ?_)
          (try clear hK K)
          refine rdT 12 (h := fun K hK => ?_)
          rw [if_pos (by rfl)]
          refine wp_append_ex (.tmp 73) (.tmp 75) 57 rfl (.slice (some ⟨_, 0, none⟩) 0 0) (.slice B m d) rfl rfl _ (by have q := St.p12 (ar := ar) st.out B d [] hI2.out (by have := hm.out; omega) hd.out; rw [← hm.out] at q; exact q) ?_
          rintro u12 W12 ⟨A2, c2, rfl, md⟩
          replace md := hide md
          refine kT hK (by first | exact hk2.out w2 hb2.out _ st.out.bl | exact hk2.out w2 hb2.out _ md.out.bl | exact hk2.out w2 hb2.out _ hb16.out | exact hk2.out w2 hb2.out _ hb17.out) (h := fun hHeld => ?_)
          (try clear hK K)
          refine tkT 15 (h := ?_)
          refine rdT 16 (h := fun K hK => ?_)
          rw [if_pos (by rfl)]
          refine wp_buildF 79 nf A2 m c2 rs rfl rfl ?_
          intro W16 hB16 hb16'
          have hb16 := hide (md.out.bl.trans (hb16'.mono md.out.bl.size))
          rw [hm.out] at hB16
          replace hB16 := hide hB16
          replace hb16' := hide hb16'
          refine kT hK (by first | exact hk2.out w2 hb2.out _ st.out.bl | exact hk2.out w2 hb2.out _ md.out.bl | exact hk2.out w2 hb2.out _ hb16.out | exact hk2.out w2 hb2.out _ hb17.out) (h := fun hHeld => ?_)
          (try clear hK K)
          refine rdT 17 (h := fun K hK => ?_)
          rw [if_pos (by rfl)]
          refine wp_append_ex (.tmp 70) (.tmp 80) 46 rfl v1 (.slice (some ⟨_, 0, none⟩) 1 1) rfl rfl _ (Mid.p17 md.out hB16.out hb16'.out (by omega)) ?_
          rintro u17 W17 ⟨g, c3, rfl, hg17, hb17, hrow17, hI17⟩
          obtain ⟨k1, k2, k3, k4⟩ := hfin2.out g c3 A2 c2 W17 hg17 hb17 hrow17 hI17
          replace hb17 := hide hb17; replace k3 := hide k3; replace k4 := hide k4; clear hrow17 hI17
          refine kT hK (by first | exact hk2.out w2 hb2.out _ st.out.bl | exact hk2.out w2 hb2.out _ md.out.bl | exact hk2.out w2 hb2.out _ hb16.out | exact hk2.out w2 hb2.out _ hb17.out) (h := fun hHeld => ?_)
          (try clear hK K)
          refine tkT 18 (h := ?_)
          refine tkT 19 (h := ?_)
          refine wpAnyT_ready (rs := [20]) (by kernel_rfl) (by simp) ?_
          refine (AllReadyT.last (by (simp only [List.getElem?_toArray, List.getElem?_cons_zero, List.getElem?_cons_succ]) <;> rfl) (by kernel_rfl) (fun K hK => ?_) AllReadyT.nil)
          go_simp
          refine hK.out _ _ ?_
          (try clear hK K)
          (try simp only [Act.put, List.setIfInBounds_toArray, List.set_cons_zero, List.set_cons_succ])
          refine wpAnyT_done (by kernel_rfl) ?_ _
          (try clear hHeld)
          go_wp2
          go_ret
          exact ⟨rfl, ⟨_, _, k3.out⟩, k4.out⟩
        · rw [if_pos (by rfl)]
          refine wp_build0 57 3 1 rfl Tryz.underlying57 Tryz.sizeOf3 ?_
          intro W9 hB9 hb9
          have st := hide (St.a9 st.out hB9 hb9)
          refine kT hK (by first | exact hk2.out w2 hb2.out _ st.out.bl | exact hk2.out w2 hb2.out _ md.out.bl | exact hk2.out w2 hb2.out _ hb16.out | exact hk2.out w2 hb2.out _ hb17.out) (h := fun hHeld => ?_)
          (try clear hK K)
          refine rdT 6 (h := fun K hK => ?_)
          rw [if_pos (by rfl)]
          refine wp_append_ex (.tmp 65) (.tmp 69) 46 rfl (.slice (some ⟨_, 0, none⟩) 0 0) (.slice AF n cF) rfl rfl _ (St.p6 st.out AF cF (R ++ Z) f1.out fl.out fo.out (by omega) hcF.out) ?_
          rintro v1 W6 st
          replace st := hide st
          refine kT hK (by first | exact hk2.out w2 hb2.out _ st.out.bl | exact hk2.out w2 hb2.out _ md.out.bl | exact hk2.out w2 hb2.out _ hb16.out | exact hk2.out w2 hb2.out _ hb17.out) (h := fun hHeld => ?_)
          (try clear hK K)
          refine rdT 12 (h := fun K hK => ?_)
          rw [if_pos (by rfl)]
          refine wp_append_ex (.tmp 73) (.tmp 75) 57 rfl (.slice (some ⟨_, 0, none⟩) 0 0) (.slice B m d) rfl rfl _ (by have q := St.p12 (ar := ar) st.out B d [] hI2.out (by have := hm.out; omega) hd.out; rw [← hm.out] at q; exact q) ?_
          rintro u12 W12 ⟨A2, c2, rfl, md⟩
          replace md := hide md
          refine kT hK (by first | exact hk2.out w2 hb2.out _ st.out.bl | exact hk2.out w2 hb2.out _ md.out.bl | exact hk2.out w2 hb2.out _ hb16.out | exact hk2.out w2 hb2.out _ hb17.out) (h := fun hHeld => ?_)
          (try clear hK K)
          refine tkT 15 (h := ?_)
          refine rdT 16 (h := fun K hK => ?_)
          rw [if_pos (by rfl)]
          refine wp_buildF 79 nf A2 m c2 rs rfl rfl ?_
          intro W16 hB16 hb16'
          have hb16 := hide (md.out.bl.trans (hb16'.mono md.out.bl.size))
          rw [hm.out] at hB16
          replace hB16 := hide hB16
          replace hb16' := hide hb16'
          refine kT hK (by first | exact hk2.out w2 hb2.out _ st.out.bl | exact hk2.out w2 hb2.out _ md.out.bl | exact hk2.out w2 hb2.out _ hb16.out | exact hk2.out w2 hb2.out _ hb17.out) (h := fun hHeld => ?_)
          (try clear hK K)
          refine rdT 17 (h := fun K hK => ?_)
          rw [if_pos (by rfl)]
          refine wp_append_ex (.tmp 70) (.tmp 80) 46 rfl v1 (.slice (some ⟨_, 0, none⟩) 1 1) rfl rfl _ (Mid.p17 md.out hB16.out hb16'.out (by omega)) ?_
          rintro u17 W17 ⟨g, c3, rfl, hg17, hb17, hrow17, hI17⟩
          obtain ⟨k1, k2, k3, k4⟩ := hfin2.out g c3 A2 c2 W17 hg17 hb17 hrow17 hI17
          replace hb17 := hide hb17; replace k3 := hide k3; replace k4 := hide k4; clear hrow17 hI17
          refine kT hK (by first | exact hk2.out w2 hb2.out _ st.out.bl | exact hk2.out w2 hb2.out _ md.out.bl | exact hk2.out w2 hb2.out _ hb16.out | exact hk2.out w2 hb2.out _ hb17.out) (h := fun hHeld => ?_)
          (try clear hK K)
          refine tkT 18 (h := ?_)
          refine tkT 19 (h := ?_)
          refine wpAnyT_ready (rs := [20]) (by kernel_rfl) (by simp) ?_
          refine (AllReadyT.last (by (simp only [List.getElem?_toArray, List.getElem?_cons_zero, List.getElem?_cons_succ]) <;> rfl) (by kernel_rfl) (fun K hK => ?_) AllReadyT.nil)
          go_simp
          refine hK.out _ _ ?_
          (try clear hK K)
          (try simp only [Act.put, List.setIfInBounds_toArray, List.set_cons_zero, List.set_cons_succ])
          refine wpAnyT_done (by kernel_rfl) ?_ _
          (try clear hHeld)
          go_wp2
          go_ret
          exact ⟨rfl, ⟨_, _, k3.out⟩, k4.out⟩
      · rw [if_pos (by rfl)]
        refine wp_build0 57 3 1 rfl Tryz.underlying57 Tryz.sizeOf3 ?_
        intro W9 hB9 hb9
        have st := hide (St.a9 st.out hB9 hb9)
        refine kT hK (by first | exact hk2.out w2 hb2.out _ st.out.bl | exact hk2.out w2 hb2.out _ md.out.bl | exact hk2.out w2 hb2.out _ hb16.out | exact hk2.out w2 hb2.out _ hb17.out) (h := fun hHeld => ?_)
        (try clear hK K)
        refine rdT 1 (h := fun K hK => ?_)
        rw [if_pos (by rfl)]
        refine wp_build0 46 59 3 rfl Tryz.underlying46 Tryz.sizeOf59 ?_
        intro W1 hB1 hb1
        have st := hide (St.a1 st.out hB1 hb1)
        refine kT hK (by first | exact hk2.out w2 hb2.out _ st.out.bl | exact hk2.out w2 hb2.out _ md.out.bl | exact hk2.out w2 hb2.out _ hb16.out | exact hk2.out w2 hb2.out _ hb17.out) (h := fun hHeld => ?_)
        (try clear hK K)
        refine rdT 6 (h := fun K hK => ?_)
        rw [if_pos (by rfl)]
        refine wp_append_ex (.tmp 65) (.tmp 69) 46 rfl (.slice (some ⟨_, 0, none⟩) 0 0) (.slice AF n cF) rfl rfl _ (St.p6 st.out AF cF (R ++ Z) f1.out fl.out fo.out (by omega) hcF.out) ?_
        rintro v1 W6 st
        replace st := hide st
        refine kT hK (by first | exact hk2.out w2 hb2.out _ st.out.bl | exact hk2.out w2 hb2.out _ md.out.bl | exact hk2.out w2 hb2.out _ hb16.out | exact hk2.out w2 hb2.out _ hb17.out) (h := fun hHeld => ?_)
        (try clear hK K)
        refine rdT 12 (h := fun K hK => ?_)
        rw [if_pos (by rfl)]
        refine wp_append_ex (.tmp 73) (.tmp 75) 57 rfl (.slice (some ⟨_, 0, none⟩) 0 0) (.slice B m d) rfl rfl _ (by have q := St.p12 (ar := ar) st.out B d [] hI2.out (by have := hm.out; omega) hd.out; rw [← hm.out] at q; exact q) ?_
        rintro u12 W12 ⟨A2, c2, rfl, md⟩
        replace md := hide md
        refine kT hK (by first | exact hk2.out w2 hb2.out _ st.out.bl | exact hk2.out w2 hb2.out _ md.out.bl | exact hk2.out w2 hb2.out _ hb16.out | exact hk2.out w2 hb2.out _ hb17.out) (h := fun hHeld => ?_)
        (try clear hK K)
        refine tkT 15 (h := ?_)
        refine rdT 16 (h := fun K hK => ?_)
        rw [if_pos (by rfl)]
        refine wp_buildF 79 nf A2 m c2 rs rfl rfl ?_
        intro W16 hB16 hb16'
        have hb16 := hide (md.out.bl.trans (hb16'.mono md.out.bl.size))
        rw [hm.out] at hB16
        replace hB16 := hide hB16
        replace hb16' := hide hb16'
        refine kT hK (by first | exact hk2.out w2 hb2.out _ st.out.bl | exact hk2.out w2 hb2.out _ md.out.bl | exact hk2.out w2 hb2.out _ hb16.out | exact hk2.out w2 hb2.out _ hb17.out) (h := fun hHeld => ?_)
        (try clear hK K)
        refine rdT 17 (h := fun K hK => ?_)
        rw [if_pos (by rfl)]
        refine wp_append_ex (.tmp 70) (.tmp 80) 46 rfl v1 (.slice (some ⟨_, 0, none⟩) 1 1) rfl rfl _ (Mid.p17 md.out hB16.out hb16'.out (by omega)) ?_
        rintro u17 W17 ⟨g, c3, rfl, hg17, hb17, hrow17, hI17⟩
        obtain ⟨k1, k2, k3, k4⟩ := hfin2.out g c3 A2 c2 W17 hg17 hb17 hrow17 hI17
        replace hb17 := hide hb17; replace k3 := hide k3; replace k4 := hide k4; clear hrow17 hI17
        refine kT hK (by first | exact hk2.out w2 hb2.out _ st.out.bl | exact hk2.out w2 hb2.out _ md.out.bl | exact hk2.out w2 hb2.out _ hb16.out | exact hk2.out w2 hb2.out _ hb17.out) (h := fun hHeld => ?_)
        (try clear hK K)
        refine tkT 18 (h := ?_)
        refine tkT 19 (h := ?_)
        refine wpAnyT_ready (rs := [20]) (by kernel_rfl) (by simp) ?_
        refine (AllReadyT.last (by (simp only [List.getElem?_toArray, List.getElem?_cons_zero, List.getElem?_cons_succ]) <;> rfl) (by kernel_rfl) (fun K hK => ?_) AllReadyT.nil)
        go_simp
        refine hK.out _ _ ?_
        (try clear hK K)
        (try simp only [Act.put, List.setIfInBounds_toArray, List.set_cons_zero, List.set_cons_succ])
        refine wpAnyT_done (by kernel_rfl) ?_ _
        (try clear hHeld)
        go_wp2
        go_ret
        exact ⟨rfl, ⟨_, _, k3.out⟩, k4.out⟩
end
end
end
end Nt
end Go.Proofs.YthabfakbdfaciaaGreat
