import Derived.DeepKeys4
import Derived.Test.YthabfakbdfaciaaGreatOB9
import Derived.Laws.MakeOwn
import Derived.Laws.IdiomStrings
import Derived.Laws.Shifts
import Derived.Deep.RegionHeld3
namespace Go.Proofs.YthabfakbdfaciaaGreat
namespace Nt
set_option maxRecDepth 100000
set_option linter.unusedSimpArgs false
set_option linter.unusedVariables false
set_option maxHeartbeats 16000000
section
open Go.ChangeShapes Go.RowKit
open Go.Maps (Keyed)
open Go.ChangeMaps Go.MapKept Go.WideMaps
def Rw (T : List Nat) (w : World) (A : Option Addr) (vs : List Value) : Prop :=
  vs = [] ∨ ∃ b o, A = some ⟨b, o, none⟩ ∧ b < w.heap.size ∧ b ∉ T ∧ ∀ j v, vs[j]? = some v → w.cell? ⟨b, o + j, none⟩ = some v
def us (xs : List Nat) : List Value := xs.map fun (x : Nat) => .int .u64 (x : Int)
def zs (xs : List Int) : List Value := xs.map fun x => .int .i64 x
section
variable {T S T' : List Nat} {w w' : World} {A : Option Addr} {vs : List Value}
theorem Rw.nil : Rw T w A [] := .inl rfl
theorem Rw.off (h : Rw T w A vs) (hf : Off S w w') (hS : ∀ b ∈ S, b ∈ T ∨ w.heap.size ≤ b) (hT : ∀ b ∈ T', b ∈ T ∨ w.heap.size ≤ b) : Rw T' w' A vs := by
  rcases h with h | ⟨b, o, rfl, hb, hn, hc⟩
  · exact .inl h
  · refine .inr ⟨b, o, rfl, Nat.lt_of_lt_of_le hb hf.size, fun hm => (hT b hm).elim hn (fun hle => Nat.not_lt.2 hle hb), fun j v hj => ?_⟩
    exact hf.cell (a := ⟨b, o + j, none⟩) (hc j v hj) hb (fun hm => (hS b hm).elim hn (fun hle => Nat.not_lt.2 hle hb))
theorem Rw.next (h : Rw T w A vs) (hb : Below w.heap.size w w') : Rw T w' A vs := h.off (.of_below hb []) (by simp) (fun b hb => .inl hb)
theorem Rw.sl {xs : List Nat} (h : Rw T w A (us xs)) : Sl w A xs := by
  rcases h with h | ⟨b, o, rfl, hb, hn, hc⟩
  · exact .inl (by simpa [us] using h)
  · refine .inr ⟨b, o, rfl, hb, fun j hj => hc j _ ?_⟩
    unfold us lim
    rw [List.getElem?_map, List.getElem?_eq_getElem hj]
    simp [List.getD, List.getElem?_eq_getElem hj]
theorem Rw.ir {xs : List Int} (h : Rw T w A (zs xs)) : Ir T w A xs := by
  rcases h with h | ⟨b, o, rfl, hb, hn, hc⟩
  · exact .inl (by simpa [zs] using h)
  · refine .inr ⟨b, o, rfl, hb, hn, fun j hj => hc j _ ?_⟩
    unfold zs
    rw [List.getElem?_map, List.getElem?_eq_getElem hj]
    simp [List.getD, List.getElem?_eq_getElem hj]
theorem Rw.of_sl {xs : List Nat} (h : Sl w A xs) (hT : ∀ b ∈ T, w.heap.size ≤ b) : Rw T w A (us xs) := by
  rcases h with rfl | ⟨b, o, rfl, hb, hc⟩
  · exact .inl rfl
  · refine .inr ⟨b, o, rfl, hb, fun hm => Nat.not_lt.2 (hT b hm) hb, fun j v hj => ?_⟩
    unfold us at hj
    rw [List.getElem?_map] at hj
    rcases Nat.lt_or_ge j xs.length with h | h
    · rw [List.getElem?_eq_getElem h] at hj
      simp at hj
      subst hj
      rw [hc j h]
      simp [lim, List.getD, List.getElem?_eq_getElem h]
    · rw [List.getElem?_eq_none h] at hj
      simp at hj
end
structure Nd where
  op : Int
  nm : ByteArray
  ng : Bool
  nu : List Nat
  de : List Nat
  ar : List Int
  so : Int
  wo : Int
def Ns (T : List Nat) (w : World) : List Nd → List Value → Prop
  | [], vs => vs = []
  | n :: ns, vs => ∃ A c B d C e r, vs = .int .i64 n.op :: .string n.nm :: .bool n.ng :: .slice A n.nu.length c :: .slice B n.de.length d :: .slice C n.ar.length e :: .int .i64 n.so :: .int .i64 n.wo :: r ∧
      Rw T w A (us n.nu) ∧ Rw T w B (us n.de) ∧ Rw T w C (zs n.ar) ∧ Ns T w ns r
theorem Ns.off {T S T' : List Nat} {w w' : World} (hf : Off S w w') (hS : ∀ b ∈ S, b ∈ T ∨ w.heap.size ≤ b) (hT : ∀ b ∈ T', b ∈ T ∨ w.heap.size ≤ b) : ∀ {ns : List Nd} {vs : List Value}, Ns T w ns vs → Ns T' w' ns vs
  | [], _, h => h
  | _ :: _, _, ⟨A, c, B, d, C, e, r, q, h1, h2, h3, h4⟩ => ⟨A, c, B, d, C, e, r, q, h1.off hf hS hT, h2.off hf hS hT, h3.off hf hS hT, Ns.off hf hS hT h4⟩
theorem Ns.snoc {T : List Nat} {w : World} {n : Nd} {A B C : Option Addr} {c d e : Nat} (hA : Rw T w A (us n.nu)) (hB : Rw T w B (us n.de)) (hC : Rw T w C (zs n.ar)) : ∀ {ns : List Nd} {vs : List Value}, Ns T w ns vs →
    Ns T w (ns ++ [n]) (vs ++ [.int .i64 n.op, .string n.nm, .bool n.ng, .slice A n.nu.length c, .slice B n.de.length d, .slice C n.ar.length e, .int .i64 n.so, .int .i64 n.wo])
  | [], _, h => by cases h; exact ⟨A, c, B, d, C, e, [], rfl, hA, hB, hC, rfl⟩
  | m :: ns, _, ⟨A', c', B', d', C', e', r, q, h1, h2, h3, h4⟩ => by
    subst q
    exact ⟨A', c', B', d', C', e', r ++ _, rfl, h1, h2, h3, Ns.snoc hA hB hC h4⟩
theorem Ns.get {T : List Nat} {w : World} : ∀ {ns : List Nd} {vs : List Value} (_ : Ns T w ns vs) (i : Nat) (hi : i < ns.length), ∃ A c B d C e, vs[i * 8]? = some (.int .i64 ns[i].op) ∧ vs[i * 8 + 1]? = some (.string ns[i].nm) ∧ vs[i * 8 + 2]? = some (.bool ns[i].ng) ∧
    vs[i * 8 + 3]? = some (.slice A ns[i].nu.length c) ∧ vs[i * 8 + 4]? = some (.slice B ns[i].de.length d) ∧ vs[i * 8 + 5]? = some (.slice C ns[i].ar.length e) ∧ vs[i * 8 + 6]? = some (.int .i64 ns[i].so) ∧ vs[i * 8 + 7]? = some (.int .i64 ns[i].wo) ∧
    Rw T w A (us ns[i].nu) ∧ Rw T w B (us ns[i].de) ∧ Rw T w C (zs ns[i].ar)
  | n :: ns, _, ⟨A, c, B, d, C, e, r, q, h1, h2, h3, _⟩, 0, _ => by subst q; exact ⟨A, c, B, d, C, e, rfl, rfl, rfl, rfl, rfl, rfl, rfl, rfl, h1, h2, h3⟩
  | n :: ns, _, ⟨A', c', B', d', C', e', r, q, _, _, _, h4⟩, i + 1, hi => by
    subst q
    obtain ⟨A, c, B, d, C, e, q0, q1, q2, q3, q4, q5, q6, q7, q8, q9, q10⟩ := Ns.get h4 i (by simpa using hi)
    have e0 : ∀ k, (i + 1) * 8 + k = (i * 8 + k) + 1 + 1 + 1 + 1 + 1 + 1 + 1 + 1 := fun k => by omega
    have e1 : (i + 1) * 8 = (i * 8) + 1 + 1 + 1 + 1 + 1 + 1 + 1 + 1 := by omega
    refine ⟨A, c, B, d, C, e, ?_, ?_, ?_, ?_, ?_, ?_, ?_, ?_, by simpa using q8, by simpa using q9, by simpa using q10⟩
    · rw [e1]; simpa using q0
    · rw [e0]; simpa using q1
    · rw [e0]; simpa using q2
    · rw [e0]; simpa using q3
    · rw [e0]; simpa using q4
    · rw [e0]; simpa using q5
    · rw [e0]; simpa using q6
    · rw [e0]; simpa using q7
def byj (x j : Nat) : UInt8 := (x / 2 ^ (8 * j) % 256).toUInt8
def by8 (x : Nat) : List UInt8 := (List.range 8).map (byj x)
def pkl (xs : List Nat) : List UInt8 := xs.flatMap by8
def pk (xs : List Nat) : ByteArray := ⟨(pkl xs).toArray⟩
theorem pkl_length (xs : List Nat) : (pkl xs).length = 8 * xs.length := by
  unfold pkl
  induction xs with
  | nil => rfl
  | cons x xs ih => simp only [List.flatMap_cons, List.length_append, ih, List.length_cons, by8, List.length_map, List.length_range]; omega
theorem pk_size (xs : List Nat) : (pk xs).size = 8 * xs.length := by
  unfold pk
  simp only [ByteArray.size, List.size_toArray]
  exact pkl_length xs
def kcs (n : Nd) : Array Value := #[.int .i64 n.op, .int .i64 n.so, .string n.nm, .bool n.ng, .string (pk n.nu), .string (pk n.de), .string (pk (n.ar.map Int.toNat))]
def kvl (n : Nd) : Value := .agg (kcs n)
theorem laidOut : laidOutB Tryz.prog = true := by kernel_rfl
theorem keyRow : (149 : TypeId) < Tryz.prog.types.size := of_decide_eq_true (by kernel_rfl)
theorem keyCells : Tryz.prog.cellsOf 149 = 7 := by kernel_rfl
theorem keyDeep : Tryz.prog.keyType 149 = true := by kernel_rfl
theorem keyWide : (match Tryz.prog.underlying 149 with | some (.array _ _) | some (.struct _) => true | _ => false) = true := by kernel_rfl
theorem lawK : Keyed Tryz.prog 149 := Keyed.of_law (deep_law_laid laidOut (m := 3) (by omega) keyRow (by kernel_rfl) keyWide)
theorem lits_int (d : Nat) (x : Int) (hx : (Lit.int .i64 x).wf = true) : Tryz.prog.keyLits (d + 1) 3 [.int .i64 x] = some [.int .i64 x] := by
  simp [Program.keyLits, Tryz.underlying3, hx]
theorem lits_bool (d : Nat) (x : Bool) : Tryz.prog.keyLits (d + 1) 4 [.bool x] = some [.bool x] := by
  simp [Program.keyLits, Tryz.underlying4]
theorem lits_str (d : Nat) (s : ByteArray) (hs : s.size ≤ maxLen) : Tryz.prog.keyLits (d + 1) 9 [.string s] = some [.string s.data.toList] := by
  simp [Program.keyLits, Tryz.underlying9, hs]
theorem cellA1 : Tryz.prog.cellsOf 3 = 1 := by kernel_rfl
theorem cellA2 : Tryz.prog.cellsOf 4 = 1 := by kernel_rfl
theorem cellA3 : Tryz.prog.cellsOf 9 = 1 := by kernel_rfl
theorem typesSize : ∃ m, Tryz.prog.types.size = m + 1 := ⟨Tryz.prog.types.size - 1, (Nat.succ_pred_eq_of_pos (Nat.lt_of_le_of_lt (Nat.zero_le _) keyRow)).symm⟩
theorem key_some (a b : Int) (s : ByteArray) (n : Bool) (x y z : ByteArray) (ha : (Lit.int .i64 a).wf = true) (hb : (Lit.int .i64 b).wf = true) (hs : s.size ≤ maxLen) (hx : x.size ≤ maxLen) (hy : y.size ≤ maxLen) (hz : z.size ≤ maxLen) :
    ∃ l, keyOf Tryz.prog 149 (.agg #[.int .i64 a, .int .i64 b, .string s, .bool n, .string x, .string y, .string z]) = some l := by
  obtain ⟨m, hm⟩ := typesSize
  have hf : (Value.agg #[.int .i64 a, .int .i64 b, .string s, .bool n, .string x, .string y, .string z]).formed Tryz.prog 149 = true := by
    simp [Value.formed, Tryz.underlying149, keyCells]
  refine Option.isSome_iff_exists.1 ?_
  unfold keyOf
  rw [Tryz.underlying149]
  simp only [keyDeep, hf, Bool.and_self, if_true]
  rw [hm]
  unfold Program.keyLits
  rw [Tryz.underlying149]
  simp only [Value.cells, keyCells]
  simp [cellA1, cellA2, cellA3, lits_int, lits_bool, lits_str, ha, hb, hs, hx, hy, hz]
  done
structure Fit1 (n : Nd) : Prop where
  op : 1 ≤ n.op ∧ n.op ≤ 20
  nm : n.nm.size ≤ 200
  nu : n.nu.length ≤ 64
  de : n.de.length ≤ 64
  ar : n.ar.length ≤ 64
  so : 0 ≤ n.so ∧ n.so ≤ 100000000
  wo : 0 ≤ n.wo ∧ n.wo ≤ 2
theorem Fit1.key {n : Nd} (h : Fit1 n) : ∃ l, keyOf Tryz.prog 149 (kvl n) = some l := by
  refine key_some _ _ _ _ _ _ _ (WalkArith.wf_i64 (by have := h.op; omega)) (WalkArith.wf_i64 (by have := h.so; omega)) (by have := h.nm; unfold maxLen; omega) ?_ ?_ ?_
  · rw [pk_size]; have := h.nu; unfold maxLen; omega
  · rw [pk_size]; have := h.de; unfold maxLen; omega
  · rw [pk_size, List.length_map]; have := h.ar; unfold maxLen; omega
structure Km (D : DataW Unit) (ns : List Nd) : Prop where
  has : ∀ (n : Nd) (l : Lit), keyOf Tryz.prog 149 (kvl n) = some l → (Maps.has D l = true ↔ ∃ m ∈ ns, kvl m = kvl n)
  at_ : ∀ i (h : i < ns.length) (l : Lit), keyOf Tryz.prog 149 (kvl ns[i]) = some l → D.atKey l (.lit (.int .i64 0)) = .lit (.int .i64 (i : Int))
  once : (ns.map kvl).Nodup
  fit : ∀ n ∈ ns, Fit1 n
theorem Km.nil : Km (.map []) [] := by
  refine ⟨fun n l _ => ?_, fun i h => by simp at h, by simp, by simp⟩
  simp
  rfl
theorem Km.push {D : DataW Unit} {ns : List Nd} (h : Km D ns) (hD : Maps.IsMap D) (n : Nd) (hf : Fit1 n) {l : Lit} (hl : keyOf Tryz.prog 149 (kvl n) = some l) (hn : ∀ m ∈ ns, kvl m ≠ kvl n) :
    Km (D.put l (.lit (.int .i64 (ns.length : Int)))) (ns ++ [n]) := by
  have hk : WideAt.IsKeyLit l := lawK.key hl
  refine ⟨fun x lx hx => ?_, fun i hi lx hx => ?_, ?_, fun m hm => ?_⟩
  · by_cases e : kvl x = kvl n
    · have : lx = l := by rw [e, hl] at hx; injection hx with hx; exact hx.symm
      subst this
      rw [Maps.has_put_same hD hk]
      simp only [true_iff]
      exact ⟨n, by simp, e.symm⟩
    · have hne : l ≠ lx := by
        rintro rfl
        exact e (lawK.inj hx hl)
      rw [Maps.has_put_other (Ne.symm hne), h.has x lx hx]
      constructor
      · rintro ⟨m, hm, e2⟩; exact ⟨m, List.mem_append_left _ hm, e2⟩
      · rintro ⟨m, hm, e2⟩
        rcases List.mem_append.1 hm with hm | hm
        · exact ⟨m, hm, e2⟩
        · simp at hm
          subst hm
          exact absurd e2.symm e
  · by_cases hlt : i < ns.length
    · rw [List.getElem_append_left hlt] at hx
      have hne : l ≠ lx := by
        rintro rfl
        exact hn _ (List.getElem_mem hlt) (lawK.inj hx hl)
      rw [Maps.atKey_put_other (Ne.symm hne)]
      exact h.at_ i hlt lx hx
    · have hi' : i = ns.length := by simp at hi; omega
      subst hi'
      simp only [List.getElem_concat_length] at hx
      rw [hl] at hx
      injection hx with hx
      subst hx
      exact Maps.atKey_put_same hD hk _ _
  · rw [List.map_append, List.nodup_append]
    refine ⟨h.once, by simp, ?_⟩
    intro a ha b hb
    simp at hb
    subst hb
    obtain ⟨m, hm, rfl⟩ := List.mem_map.1 ha
    exact hn m hm
  · rcases List.mem_append.1 hm with hm | hm
    · exact h.fit m hm
    · simp at hm
      subst hm
      exact hf
structure Ks (D : DataW Unit) (ns : List Nd) : Prop where
  has : ∀ s : ByteArray, Maps.has D (kl s) = ns.any (fun n => n.op == 12 && n.nm.data.toList == s.data.toList)
theorem Ks.nil : Ks (.map []) [] := ⟨fun s => rfl⟩
theorem Ks.push {D : DataW Unit} {ns : List Nd} (h : Ks D ns) (hD : Maps.IsMap D) (n : Nd) (ho : n.op = 12) {d : DataW Unit} : Ks (D.put (kl n.nm) d) (ns ++ [n]) := by
  refine ⟨fun s => ?_⟩
  rw [List.any_append, List.any_cons, List.any_nil, Bool.or_false, ho]
  by_cases e : n.nm.data.toList = s.data.toList
  · have : kl s = kl n.nm := by unfold kl; rw [e]
    rw [this, Maps.has_put_same hD (by simp [WideAt.IsKeyLit]), e]
    simp
  · have hne : kl n.nm ≠ kl s := kl_ne e
    rw [Maps.has_put_other (Ne.symm hne), h.has]
    have : (n.nm.data.toList == s.data.toList) = false := beq_eq_false_iff_ne.2 e
    rw [this]
    simp
theorem Ks.skip {D : DataW Unit} {ns : List Nd} (h : Ks D ns) (n : Nd) (ho : n.op ≠ 12) : Ks D (ns ++ [n]) := by
  refine ⟨fun s => ?_⟩
  rw [List.any_append, h.has, List.any_cons, List.any_nil]
  have : (n.op == 12) = false := beq_eq_false_iff_ne.2 ho
  rw [this]
  simp
def Mps (w : World) (m1 m2 : Option Nat) (N : Nat) (ns : List Nd) : Prop :=
  (m1 = none ∧ m2 = none ∧ ns = []) ∨ ∃ b1 D1 b2 D2, m1 = some b1 ∧ m2 = some b2 ∧ w.ownsMap Tryz.prog 149 (plainElem (H := Unit) Tryz.prog 3) b1 N D1 ∧ Km D1 ns ∧ w.ownsMap Tryz.prog 9 (unitElem (H := Unit)) b2 N D2 ∧ Ks D2 ns
theorem own_off {H : Type} {P : Program} {k : TypeId} {R : Value → Option (DataW H × List MemPlace)} {T : List Nat} {w w' : World} {b n : Nat} {D : DataW H} (h : w.ownsMap P k R b n D) (hf : Off T w w') (hn : b ∉ T) : w'.ownsMap P k R b n D := by
  obtain ⟨en, cl, hb, hF⟩ := h
  exact ⟨en, cl, (hf.block b (Array.getElem?_eq_some_iff.1 hb).1 hn).trans hb, hF⟩
theorem Mps.off {T : List Nat} {w w' : World} {m1 m2 : Option Nat} {N N' : Nat} {ns : List Nd} (h : Mps w m1 m2 N ns) (hf : Off T w w') (h1 : ∀ b, m1 = some b → b ∉ T) (h2 : ∀ b, m2 = some b → b ∉ T) (hN : N ≤ N') : Mps w' m1 m2 N' ns := by
  rcases h with h | ⟨b1, D1, b2, D2, rfl, rfl, o1, k1, o2, k2⟩
  · exact .inl h
  · exact .inr ⟨b1, D1, b2, D2, rfl, rfl, (own_off o1 hf (h1 b1 rfl)).mono hN, k1, (own_off o2 hf (h2 b2 rfl)).mono hN, k2⟩
theorem Mps.lt {w : World} {m1 m2 : Option Nat} {N : Nat} {ns : List Nd} (h : Mps w m1 m2 N ns) : (∀ b : Nat, m1 = some b → b < w.heap.size) ∧ ∀ b : Nat, m2 = some b → b < w.heap.size := by
  rcases h with ⟨rfl, rfl, _⟩ | ⟨b1, D1, b2, D2, rfl, rfl, o1, k1, o2, k2⟩
  · exact ⟨fun b h => (nomatch h), fun b h => (nomatch h)⟩
  · exact ⟨fun b h => by injection h with h; subst h; exact o1.lt, fun b h => by injection h with h; subst h; exact o2.lt⟩
structure TtP (X : List Nat) (w : World) (q p : Nat) (T : List Nat) (N : Nat) (ns : List Nd) (v : Value) (m1 m2 : Option Nat) : Prop where
  bk : Bk q #[.pointer (some ⟨p, 0, none⟩), v, .map m1, .map m2] 141 w
  row : ∃ xs, w.ownsRow 0 145 8 v ns.length xs ∧ Ns (T ++ X) w ns xs
  mp : Mps w m1 m2 N ns
  eT : T = q :: (v.ownBlock.toList ++ (m1.toList ++ m2.toList))
  once : T.Nodup
  xs : ∀ b ∈ X, b < w.heap.size ∧ b ∉ T
  fit : ∀ n ∈ ns, Fit1 n
  args : ∀ i (h : i < ns.length), ∀ a ∈ ns[i].ar, 0 ≤ a ∧ a < (i : Int)
  le : ns.length ≤ N
section
variable {X : List Nat} {w w' : World} {q p : Nat} {T : List Nat} {N : Nat} {ns : List Nd} {v : Value} {m1 m2 : Option Nat}
theorem TtP.lt (h : TtP X w q p T N ns v m1 m2) : ∀ k ∈ T, k < w.heap.size := by
  intro k hk
  rw [h.eT] at hk
  rcases List.mem_cons.1 hk with rfl | hk
  · exact h.bk.lt
  rcases List.mem_append.1 hk with hk | hk
  · rw [Option.mem_toList] at hk
    obtain ⟨xs, hx, _⟩ := h.row
    exact row_lt hx hk
  rcases List.mem_append.1 hk with hk | hk
  · rw [Option.mem_toList] at hk; exact h.mp.lt.1 k hk
  · rw [Option.mem_toList] at hk; exact h.mp.lt.2 k hk
theorem TtP.parts (h : TtP X w q p T N ns v m1 m2) : q ∈ T ∧ (∀ k, v.ownBlock = some k → k ∈ T) ∧ (∀ k, m1 = some k → k ∈ T) ∧ (∀ k, m2 = some k → k ∈ T) := by
  rw [h.eT]
  refine ⟨by simp, fun k hk => ?_, fun k hk => ?_, fun k hk => ?_⟩ <;> simp [hk]
theorem TtP.off {S : List Nat} (h : TtP X w q p T N ns v m1 m2) (hf : Off S w w') (hS : ∀ b ∈ S, b ∈ X) : TtP X w' q p T N ns v m1 m2 := by
  have hd : ∀ b ∈ T, b ∉ S := fun b hb hm => (h.xs b (hS b hm)).2 hb
  obtain ⟨p1, p2, p3, p4⟩ := h.parts
  obtain ⟨xs, hx, hN⟩ := h.row
  exact ⟨h.bk.off hf (hd _ p1), ⟨xs, Off.row hx hf (fun k hk => hd k (p2 k hk)), Ns.off hf (fun b hb => .inl (List.mem_append_right _ (hS b hb))) (fun b hb => .inl hb) hN⟩,
    h.mp.off hf (fun k hk => hd k (p3 k hk)) (fun k hk => hd k (p4 k hk)) (Nat.le_refl _), h.eT, h.once, xs_off h.xs hf.size (fun b hb => .inl hb), h.fit, h.args, h.le⟩
theorem TtP.next (h : TtP X w q p T N ns v m1 m2) (hb : Below w.heap.size w w') : TtP X w' q p T N ns v m1 m2 := h.off (.of_below hb []) (by simp)
theorem TtP.turn {Y : List Nat} (h : TtP X w q p T N ns v m1 m2) (hb : Below w.heap.size w w') (hY : ∀ b ∈ Y, (b ∈ X ∨ w.heap.size ≤ b) ∧ b < w'.heap.size) : TtP Y w' q p T N ns v m1 m2 := by
  have h1 := h.next hb
  obtain ⟨xs, hx, hN⟩ := h.row
  have hO := Off.of_below hb []
  refine ⟨h1.bk, ⟨xs, Off.row hx hO (by simp), Ns.off hO (by simp) (fun b hb => ?_) hN⟩, h1.mp, h1.eT, h1.once, fun b hb => ⟨(hY b hb).2, fun hm => ?_⟩, h1.fit, h1.args, h1.le⟩
  · rcases List.mem_append.1 hb with hb | hb
    · exact .inl (List.mem_append_left _ hb)
    · exact (hY b hb).1.imp (List.mem_append_right _) id
  · rcases (hY b hb).1 with hx | hx
    · exact (h.xs b hx).2 hm
    · exact Nat.not_lt.2 hx (h.lt b hm)
end
def Tt (X : List Nat) (B : Nat) (w0 w : World) (q N : Nat) (so fu : List (ByteArray × Nat)) (ty : List Fn) (ns : List Nd) : Prop :=
  ∃ p T v m1 m2, TtP X w q p T N ns v m1 m2 ∧ Tw (T ++ X) B w0 w p 1000 0 so fu ty ∧ ∀ b ∈ T, B ≤ b
section
variable {X : List Nat} {B : Nat} {w0 w w' : World} {q N : Nat} {so fu : List (ByteArray × Nat)} {ty : List Fn} {ns : List Nd}
theorem Tt.next (h : Tt X B w0 w q N so fu ty ns) (hb : Below w.heap.size w w') : Tt X B w0 w' q N so fu ty ns := by
  obtain ⟨p, T, v, m1, m2, h1, h2, h3⟩ := h
  exact ⟨p, T, v, m1, m2, h1.next hb, h2.next hb, h3⟩
theorem Tt.below (h : Tt X B w0 w q N so fu ty ns) : Below B w0 w := by obtain ⟨p, T, v, m1, m2, h1, h2, h3⟩ := h; exact h2.below
theorem Tt.base (h : Tt X B w0 w q N so fu ty ns) : B ≤ w.heap.size := by obtain ⟨p, T, v, m1, m2, h1, h2, h3⟩ := h; exact h2.base
theorem Tt.lt (h : Tt X B w0 w q N so fu ty ns) {b : Nat} (hb : b ∈ X) : b < w.heap.size := by obtain ⟨p, T, v, m1, m2, h1, h2, h3⟩ := h; exact (h1.xs b hb).1
theorem Tt.turn {Y : List Nat} (h : Tt X B w0 w q N so fu ty ns) (hb : Below w.heap.size w w') (hY : ∀ b ∈ Y, (b ∈ X ∨ w.heap.size ≤ b) ∧ b < w'.heap.size) : Tt Y B w0 w' q N so fu ty ns := by
  obtain ⟨p, T, v, m1, m2, h1, h2, h3⟩ := h
  refine ⟨p, T, v, m1, m2, h1.turn hb hY, h2.turn hb (fun b hm => ?_), h3⟩
  rcases List.mem_append.1 hm with hm | hm
  · exact ⟨.inl (List.mem_append_left _ hm), Nat.lt_of_lt_of_le (h1.lt b hm) hb.size⟩
  · exact ⟨(hY b hm).1.imp (List.mem_append_right _) id, (hY b hm).2⟩
theorem Tt.less {Y : List Nat} (h : Tt X B w0 w q N so fu ty ns) (hY : ∀ b ∈ Y, b ∈ X) : Tt Y B w0 w q N so fu ty ns :=
  h.turn (.refl _ _) (fun b hb => ⟨.inl (hY b hb), h.lt (hY b hb)⟩)
theorem Tt.alloc (h : Tt X B w0 w q N so fu ty ns) (o : Obj) : Tt (w.heap.size :: X) B w0 (w.alloc o) q N so fu ty ns := by
  have hb : Below w.heap.size w (w.alloc o) := (Below.refl _ _).alloc (Nat.le_refl _) o
  refine h.turn hb (fun b hm => ?_)
  rcases List.mem_cons.1 hm with rfl | hm
  · exact ⟨.inr (Nat.le_refl _), by simp⟩
  · exact ⟨.inl hm, Nat.lt_of_lt_of_le (h.lt hm) hb.size⟩
theorem Tt.al (h : Tt X B w0 w q N so fu ty ns) (o : Obj) : Tt X B w0 (w.alloc o) q N so fu ty ns := h.next ((Below.refl _ _).alloc (Nat.le_refl _) o)
theorem Tt.offX {S : List Nat} (h : Tt X B w0 w q N so fu ty ns) (hO : Off S w w') (hS : ∀ b ∈ S, b ∈ X ∧ B ≤ b) : Tt X B w0 w' q N so fu ty ns := by
  obtain ⟨p, T, v, m1, m2, h1, h2, h3⟩ := h
  exact ⟨p, T, v, m1, m2, h1.off hO (fun b hb => (hS b hb).1), h2.offX hO (fun b hb => ⟨List.mem_append_right _ (hS b hb).1, (hS b hb).2⟩), h3⟩
theorem Tw.offTurn {S Y : List Nat} {p N lv : Nat} {so fu : List (ByteArray × Nat)} {ty : List Fn} (h : Tw X B w0 w p N lv so fu ty) (hO : Off S w w') (hS : ∀ b ∈ S, b ∈ X ∧ B ≤ b) (hY : ∀ b ∈ Y, (b ∈ X ∨ w.heap.size ≤ b) ∧ b < w'.heap.size) : Tw Y B w0 w' p N lv so fu ty := by
  obtain ⟨T, ⟨⟨v1, m1, v2, m2, v3, h1⟩, hn⟩, h2, h3, h4⟩ := h
  have hd : ∀ b ∈ T, b ∉ S := fun b hb hm => (h1.xs b (hS b hm).1).2 hb
  have hT := h1.eT
  obtain ⟨xs, hx, hF⟩ := h1.tS
  have s0 : p ∈ T := by rw [hT]; simp
  have s1 : ∀ k ∈ bks v1 m1, k ∈ T := fun k hk => by rw [hT]; exact List.mem_cons_of_mem _ (List.mem_append_left _ hk)
  have s2 : ∀ k ∈ bks v2 m2, k ∈ T := fun k hk => by rw [hT]; exact List.mem_cons_of_mem _ (List.mem_append_right _ (List.mem_append_left _ hk))
  have s3 : ∀ k, v3.ownBlock = some k → k ∈ T := fun k hk => by rw [hT]; exact List.mem_cons_of_mem _ (List.mem_append_right _ (List.mem_append_right _ (by rw [Option.mem_toList]; exact hk)))
  refine ⟨T, ⟨⟨v1, m1, v2, m2, v3, h1.bk.off hO (hd _ s0), h1.sS.off hO (fun k hk => hd k (s1 k hk)) (Nat.le_refl _), h1.fS.off hO (fun k hk => hd k (s2 k hk)) (Nat.le_refl _), ⟨xs, Off.row hx hO (fun k hk => hd k (s3 k hk)), Fs.off hO (fun b hb => .inl (List.mem_append_right _ (hS b hb).1)) (fun b hb => ?_) hF⟩, h1.eT, h1.once, fun b hb => ⟨(hY b hb).2, fun hm => ?_⟩⟩, hn⟩, h2, h3.trans (hO.below h4 (fun b hb => (hS b hb).2)), Nat.le_trans h4 hO.size⟩
  · rcases List.mem_append.1 hb with hb | hb
    · exact .inl (List.mem_append_left _ hb)
    · exact (hY b hb).1.imp (List.mem_append_right _) id
  · rcases (hY b hb).1 with hx | hx
    · exact (h1.xs b hx).2 hm
    · exact Nat.not_lt.2 hx (h1.lt b hm)
theorem Tt.step {p : Nat} {T T' : List Nat} {N' : Nat} {ns' : List Nd} {v v' : Value} {m1 m2 m1' m2' : Option Nat} (h1 : TtP X w q p T N ns v m1 m2) (h2 : Tw (T ++ X) B w0 w p 1000 0 so fu ty) (h3 : ∀ b ∈ T, B ≤ b) (k1 : TtP X w' q p T' N' ns' v' m1' m2') (k2 : Off T w w') (k3 : ∀ b ∈ T', b ∈ T ∨ w.heap.size ≤ b) :
    Tt X B w0 w' q N' so fu ty ns' ∧ Same X w w' := by
  have hT : ∀ b ∈ T', B ≤ b := fun b hb => (k3 b hb).elim (h3 b) (fun h => Nat.le_trans h2.base h)
  refine ⟨⟨p, T', v', m1', m2', k1, h2.offTurn k2 (fun b hb => ⟨List.mem_append_left _ hb, h3 b hb⟩) (fun b hb => ?_), hT⟩, fun b hb => k2.block b (h1.xs b hb).1 (h1.xs b hb).2⟩
  rcases List.mem_append.1 hb with hb | hb
  · exact ⟨(k3 b hb).imp (List.mem_append_left _) id, k1.lt b hb⟩
  · exact ⟨.inl (List.mem_append_right _ hb), (k1.xs b hb).1⟩
end
structure Vw (w : World) (q : Nat) (A : Option Addr) (c : Nat) (ns : List Nd) : Prop where
  sl : w.cell? ⟨q, 1, none⟩ = some (.slice A ns.length c)
  le : ns.length ≤ 1000000
  at_ : ∀ i (h : i < ns.length), ∃ g, A = some ⟨g, 0, none⟩ ∧ w.cell? ⟨g, i * 8 + 6, none⟩ = some (.int .i64 ns[i].so) ∧ w.cell? ⟨g, i * 8 + 7, none⟩ = some (.int .i64 ns[i].wo)
theorem Vw.next {w w' : World} {q : Nat} {A : Option Addr} {c : Nat} {ns : List Nd} (h : Vw w q A c ns) (hb : Below w.heap.size w w') : Vw w' q A c ns := by
  refine ⟨(hb.cell (p := ⟨q, 1, none⟩) (cell_in h.sl)).trans h.sl, h.le, fun i hi => ?_⟩
  obtain ⟨g, h1, h2, h3⟩ := h.at_ i hi
  exact ⟨g, h1, (hb.cell (p := ⟨g, i * 8 + 6, none⟩) (cell_in h2)).trans h2, (hb.cell (p := ⟨g, i * 8 + 7, none⟩) (cell_in h3)).trans h3⟩
theorem TtP.vw {X : List Nat} {w : World} {q p : Nat} {T : List Nat} {N : Nat} {ns : List Nd} {v : Value} {m1 m2 : Option Nat} (h : TtP X w q p T N ns v m1 m2) (hN : N ≤ 1000000) : ∃ A c, v = .slice A ns.length c ∧ Vw w q A c ns := by
  obtain ⟨xs, hx, hF⟩ := h.row
  have hform : ∃ A c, v = .slice A ns.length c := by
    rcases hx.2 with ⟨e, h⟩ | ⟨g, cap, cu, e, _⟩
    · exact ⟨none, 0, by rw [e, h]⟩
    · exact ⟨_, _, e⟩
  obtain ⟨A, c, rfl⟩ := hform
  refine ⟨A, c, rfl, h.bk.cell rfl, Nat.le_trans h.le hN, fun i hi => ?_⟩
  obtain ⟨_, _, _, _, _, _, _, _, _, _, _, _, q6, q7, _⟩ := Ns.get hF i hi
  rcases hx.2 with ⟨e, h0⟩ | ⟨g, cap, cu, e, _⟩
  · omega
  · cases e
    have r6 := hx.cells (g := g) rfl _ _ q6
    have r7 := hx.cells (g := g) rfl _ _ q7
    rw [Addr.add_lit, Nat.zero_add] at r6 r7
    exact ⟨g, rfl, r6, r7⟩
theorem len_t (q n c : Nat) (A : Option Addr) (w : World) (h : w.cell? ⟨q, 1, none⟩ = some (.slice A n c)) :
    Calls Tryz.prog 101 #[.pointer (some ⟨q, 0, none⟩)] w fun e w' => e = .returned (.int .i64 (n : Int)) ∧ w = w' := by
  go_enter Tryz.func101, Tryz.ntmps101
  go_wp2
  go_ret
  exact ⟨rfl, rfl⟩
def hasT (n : Nat) (x : Int) : Bool := decide (0 ≤ x) && decide (x < (n : Int))
theorem hasT_iff {n : Nat} {x : Int} : hasT n x = true ↔ 0 ≤ x ∧ x < (n : Int) := by simp [hasT]
theorem has_t (q n c : Nat) (A : Option Addr) (x : Int) (w : World) (h : w.cell? ⟨q, 1, none⟩ = some (.slice A n c)) :
    Calls Tryz.prog 76 #[.pointer (some ⟨q, 0, none⟩), .int .i64 x] w fun e w' => e = .returned (.bool (hasT n x)) ∧ w = w' := by
  have hl := len_t q n c A w h
  have go : ∀ b, hasT n x = b → Calls Tryz.prog 76 #[.pointer (some ⟨q, 0, none⟩), .int .i64 x] w fun e w' => e = .returned (.bool b) ∧ w = w' := by
    intro b hb
    by_cases h1 : 0 ≤ x
    · by_cases h2 : x < (n : Int)
      · have : b = true := by rw [← hb]; simp [hasT, h1, h2]
        subst this
        clear hb
        go_enter Tryz.func76, Tryz.ntmps76
        go_wp2_with (go_at_call 101; refine hl.mono ?_; rintro e w' ⟨rfl, rfl⟩)
        go_ret
        exact ⟨rfl, rfl⟩
      · have : b = false := by rw [← hb]; simp [hasT, h1, h2]
        subst this
        clear hb
        have h3 : decide (x < (n : Int)) = false := decide_eq_false h2
        go_enter Tryz.func76, Tryz.ntmps76
        go_wp2_with (go_at_call 101; refine hl.mono ?_; rintro e w' ⟨rfl, rfl⟩)
        go_ret
        exact ⟨rfl, rfl⟩
    · have : b = false := by rw [← hb]; simp [hasT, h1]
      subst this
      clear hb
      go_enter Tryz.func76, Tryz.ntmps76
      go_wp2
      go_ret
      exact ⟨rfl, rfl⟩
  exact go _ rfl
def soAt (ns : List Nd) (a : Int) : Int := ((ns[a.toNat]?).map Nd.so).getD 0
def woAt (ns : List Nd) (a : Int) : Int := ((ns[a.toNat]?).map Nd.wo).getD 0
theorem soAt_get {ns : List Nd} {i : Nat} (h : i < ns.length) : soAt ns (i : Int) = ns[i].so := by simp [soAt, List.getElem?_eq_getElem h]
theorem woAt_get {ns : List Nd} {i : Nat} (h : i < ns.length) : woAt ns (i : Int) = ns[i].wo := by simp [woAt, List.getElem?_eq_getElem h]
theorem Vw.get {w : World} {q : Nat} {A : Option Addr} {c : Nat} {ns : List Nd} (h : Vw w q A c ns) {x : Int} (h0 : 0 ≤ x) (h1 : x < (ns.length : Int)) :
    ∃ g i : Nat, A = some ⟨g, 0, none⟩ ∧ x = (i : Int) ∧ i < ns.length ∧ w.cell? ⟨g, i * 8 + 6, none⟩ = some (.int .i64 (soAt ns x)) ∧ w.cell? ⟨g, i * 8 + 7, none⟩ = some (.int .i64 (woAt ns x)) := by
  obtain ⟨i, rfl⟩ : ∃ i : Nat, x = (i : Int) := ⟨x.toNat, by omega⟩
  have hi : i < ns.length := by omega
  obtain ⟨g, e, h2, h3⟩ := h.at_ i hi
  exact ⟨g, i, e, rfl, hi, by rw [soAt_get hi]; exact h2, by rw [woAt_get hi]; exact h3⟩
theorem allT_step {ns : List Nd} {s : Int} {ar : List Int} {k : Nat} (hk : k < ar.length) (h : (ar.take k).all (fun a => soAt ns a == s) = true) (hx : soAt ns (ar.getD k 0) = s) : (ar.take (k + 1)).all (fun a => soAt ns a == s) = true := by
  rw [List.take_add_one, List.all_append, h, List.getElem?_eq_getElem hk]
  have : ar.getD k 0 = ar[k] := by simp [List.getD, List.getElem?_eq_getElem hk]
  rw [this] at hx
  simp [hx]
theorem allT_stop {ns : List Nd} {s : Int} {ar : List Int} {k : Nat} (hk : k < ar.length) (hx : soAt ns (ar.getD k 0) ≠ s) : ar.all (fun a => soAt ns a == s) = false := by
  have : ar.getD k 0 = ar[k] := by simp [List.getD, List.getElem?_eq_getElem hk]
  rw [this] at hx
  exact List.all_eq_false.2 ⟨ar[k], List.getElem_mem hk, by simp [hx]⟩
theorem getD_mem {ar : List Int} {k : Nat} (h : k < ar.length) : ar.getD k 0 ∈ ar := by
  have : ar.getD k 0 = ar[k] := by simp [List.getD, List.getElem?_eq_getElem h]
  rw [this]; exact List.getElem_mem h
theorem all_t (q c : Nat) (A : Option Addr) (ns : List Nd) (s : Int) (B : Option Addr) (ar : List Int) (d : Nat) (T : List Nat) (w : World) (h : Vw w q A c ns) (hi : Ir T w B ar) (hin : ∀ a ∈ ar, 0 ≤ a ∧ a < (ns.length : Int)) (hl : ar.length ≤ 1000000) :
    Calls Tryz.prog 77 #[.pointer (some ⟨q, 0, none⟩), .int .i64 s, .slice B ar.length d] w fun e w' => e = .returned (.bool (ar.all fun a => soAt ns a == s)) ∧ w = w' := by
  obtain ⟨b, hb⟩ : ∃ b, b = (ar.all fun a => soAt ns a == s) := ⟨_, rfl⟩
  rw [← hb]
  replace hb := hide hb
  obtain ⟨m, hm⟩ : ∃ m, m = ar.length := ⟨_, rfl⟩
  have hl2 : m ≤ 1000000 := by omega
  rw [← hm]
  replace hm := hide hm
  replace hin := hide hin
  clear hl
  have hsl := h.sl
  have hle := h.le
  replace h := hide h
  replace hi := hide hi
  go_enter Tryz.func77, Tryz.ntmps77
  go_wp2
  go_loop [11] (fun i => ∃ k : Nat, k ≤ m ∧ i = .int .i64 (k : Int) ∧ (ar.take k).all (fun a => soAt ns a == s) = true) (fun i => m - (intOf i).toNat)
  case atStart => exact ⟨0, Nat.zero_le _, rfl, rfl⟩
  case round =>
    obtain ⟨k, hk, rfl, hall⟩ := hrel
    by_cases hlt : k < m
    · have hkl : k < ar.length := by rw [← hm.out]; exact hlt
      rcases hi.out with he | ⟨b', o, rfl, _, _, hc⟩
      · rw [he] at hkl; simp at hkl
      replace hc := hc k hkl
      have hst := hide (allT_step (ns := ns) (s := s) hkl hall)
      have hsp := hide (allT_stop (ns := ns) (s := s) (ar := ar) hkl)
      obtain ⟨x0, x1⟩ := hin.out _ (getD_mem hkl)
      obtain ⟨g, i, rfl, hxi, hlti, y6, _⟩ := h.out.get x0 x1
      clear hall
      rw [hxi] at hc hst hsp y6
      clear hxi x0 x1
      generalize soAt ns (i : Int) = y at *
      by_cases hx : y = s
      · subst hx
        have hnx := hide (hst.out rfl)
        go_wp2
        go_round
        case rel => exact ⟨k + 1, hlt, rfl, hnx.out⟩
        case measure => simp only [intOf]; omega
      · have hx2 : (y != s) = true := by simpa using hx
        have : b = false := by rw [hb.out, hsp.out hx]
        subst this
        go_wp2
        go_ret
        exact ⟨rfl, rfl⟩
    · have hkm : k = m := by omega
      subst hkm
      have : b = true := by
        rw [hb.out, ← hall, hm.out, List.take_length]
      subst this
      clear hall
      go_wp2
      go_ret
      exact ⟨rfl, rfl⟩
def cntT (ns : List Nd) (u : Int) (ar : List Int) : Nat := (ar.filter fun a => woAt ns a == u).length
theorem cntT_step {ns : List Nd} {u : Int} {ar : List Int} {k : Nat} (hk : k < ar.length) : cntT ns u (ar.take (k + 1)) = cntT ns u (ar.take k) + (if woAt ns (ar.getD k 0) = u then 1 else 0) := by
  have : ar.getD k 0 = ar[k] := by simp [List.getD, List.getElem?_eq_getElem hk]
  unfold cntT
  rw [List.take_add_one, List.getElem?_eq_getElem hk, this, List.filter_append, List.length_append]
  congr 1
  simp only [Option.toList_some, List.filter_cons, List.filter_nil]
  by_cases h : woAt ns ar[k] = u
  · simp [h]
  · simp [h]
theorem cntT_le {ns : List Nd} {u : Int} {ar : List Int} : cntT ns u ar ≤ ar.length := List.length_filter_le _ _
theorem count_t (q c : Nat) (A : Option Addr) (ns : List Nd) (s : Int) (B : Option Addr) (ar : List Int) (d : Nat) (T : List Nat) (w : World) (h : Vw w q A c ns) (hi : Ir T w B ar) (hin : ∀ a ∈ ar, 0 ≤ a ∧ a < (ns.length : Int)) (hl : ar.length ≤ 1000000) :
    Calls Tryz.prog 103 #[.pointer (some ⟨q, 0, none⟩), .int .i64 s, .slice B ar.length d] w fun e w' => e = .returned (.int .i64 (cntT ns s ar : Int)) ∧ w = w' := by
  obtain ⟨r, hr⟩ : ∃ r, r = cntT ns s ar := ⟨_, rfl⟩
  rw [← hr]
  replace hr := hide hr
  obtain ⟨m, hm⟩ : ∃ m, m = ar.length := ⟨_, rfl⟩
  have hl2 : m ≤ 1000000 := by omega
  rw [← hm]
  replace hm := hide hm
  replace hin := hide hin
  clear hl
  have hsl := h.sl
  have hle := h.le
  replace h := hide h
  replace hi := hide hi
  go_enter Tryz.func103, Tryz.ntmps103
  go_wp2
  go_loop [7, 12] (fun v i => ∃ k n : Nat, k ≤ m ∧ i = .int .i64 (k : Int) ∧ v = .int .i64 (n : Int) ∧ n = cntT ns s (ar.take k)) (fun v i => m - (intOf i).toNat)
  case atStart => exact ⟨0, 0, Nat.zero_le _, rfl, rfl, rfl⟩
  case round =>
    obtain ⟨k, n, hk, rfl, rfl, hn⟩ := hrel
    by_cases hlt : k < m
    · have hkl : k < ar.length := by rw [← hm.out]; exact hlt
      rcases hi.out with he | ⟨b', o, rfl, _, _, hc⟩
      · rw [he] at hkl; simp at hkl
      replace hc := hc k hkl
      have hst := hide (cntT_step (ns := ns) (u := s) hkl)
      have hn1 : n ≤ 1000000 := by
        have := cntT_le (ns := ns) (u := s) (ar := ar.take k)
        rw [List.length_take] at this
        omega
      obtain ⟨x0, x1⟩ := hin.out _ (getD_mem hkl)
      obtain ⟨g, i, rfl, hxi, hlti, _, y7⟩ := h.out.get x0 x1
      replace hn := hide hn
      rw [hxi] at hc hst y7
      clear hxi x0 x1
      generalize woAt ns (i : Int) = y at *
      by_cases hx : y = s
      · subst hx
        have hnx : n + 1 = cntT ns y (ar.take (k + 1)) := by rw [hst.out, hn.out]; simp
        replace hnx := hide hnx
        go_wp2
        go_round
        case rel => exact ⟨k + 1, n + 1, hlt, rfl, rfl, hnx.out⟩
        case measure => simp only [intOf]; omega
      · have hx2 : (y == s) = false := by simpa using hx
        have hnx : n = cntT ns s (ar.take (k + 1)) := by rw [hst.out, hn.out]; simp [hx]
        replace hnx := hide hnx
        go_wp2
        go_round
        case rel => exact ⟨k + 1, n, hlt, rfl, rfl, hnx.out⟩
        case measure => simp only [intOf]; omega
    · have hkm : k = m := by omega
      subst hkm
      have : n = r := by
        rw [hr.out, hn, hm.out, List.take_length]
      subst this
      replace hn := hide hn
      go_wp2
      go_ret
      exact ⟨rfl, rfl⟩
def bv (b : UInt8) : Value := .int .u8 (b.toNat : Int)
def Bw (B : Nat) (w : World) (v : Value) (bs : List UInt8) : Prop := w.ownsRow B 5 1 v bs.length (bs.map bv)
theorem Bw.made {B cap : Nat} (w : World) (hb : B ≤ w.heap.size) (hm : cap ≤ maxLen) : Bw B (w.alloc (.cells (madeCells #[.int .u8 0] cap) 5)) (.slice (some ⟨w.heap.size, 0, none⟩) 0 cap) [] :=
  ⟨by simp, .inr ⟨w.heap.size, cap, madeCells #[.int .u8 0] cap, rfl, hb, heap_alloc_new w _, Nat.zero_le _, hm, by rw [size_madeCells]; simp, by simp⟩⟩
theorem Bw.push {B : Nat} {w : World} {v : Value} {bs : List UInt8} (h : Bw B w v bs) (hB : B ≤ w.heap.size) (x : UInt8) (hl : bs.length ≤ 1000000) :
    ∃ A' c' w', (∀ ty, (Builtin.append_ #[175, 175] ty #[v, .slice (some ⟨w.heap.size, 0, none⟩) 1 1]).run Tryz.prog (w.alloc (.cells #[bv x] 5)) = .ok (.slice A' (bs.length + 1) c') w') ∧ Bw B w' (.slice A' (bs.length + 1) c') (bs ++ [x]) ∧ Below B w w' := by
  obtain ⟨i, hinf, hz, h1, h8⟩ := info_parts (P := Tryz.prog) (e := 5) (z := .int .u8 0) (size := 1) (bytes := 1) (by kernel_rfl)
  have hb : Bk w.heap.size #[bv x] 5 (w.alloc (.cells #[bv x] 5)) := Bk.new _ _ _
  have hcells : ∀ j u, ([bv x] : List Value)[j]? = some u → (w.alloc (.cells #[bv x] 5)).cell? ((⟨w.heap.size, 0, none⟩ : Addr).add j) = some u := by
    intro j u hu
    rw [Addr.add_lit, Nat.zero_add]
    refine hb.cell ?_
    rw [← Array.getElem?_toList]
    exact hu
  obtain ⟨v', w', hr, h2, h3, h4, h5⟩ := run_append_own_at (P := Tryz.prog) (w.alloc (.cells #[bv x] 5)) B 175 0 5 i (.int .u8 0) 1 1 Tryz.underlying175 hinf hz h1 h8 rfl (by decide) v bs.length _ (h.alloc _) ⟨w.heap.size, 0, none⟩ 1 1 [bv x] (by simp) hcells
    (by intro u hu; simp at hu; subst hu; rfl) (by unfold maxLen; omega) (by omega) (by simp; omega)
  have hform : ∃ A' c', v' = .slice A' (bs.length + 1) c' := by
    rcases h2.2 with ⟨_, h⟩ | ⟨g, cap, cu, e, _⟩
    · omega
    · exact ⟨_, _, e⟩
  obtain ⟨A', c', rfl⟩ := hform
  refine ⟨A', c', w', fun ty => hr, ?_, ?_⟩
  · show w'.ownsRow B 5 1 (.slice A' (bs.length + 1) c') (bs ++ [x]).length ((bs ++ [x]).map bv)
    rw [List.length_append, List.map_append]
    exact h2
  · refine (((Off.refl v.ownBlock.toList w).alloc _).trans (Off.of_grown (T := v.ownBlock.toList) h3 (fun k hk => .inl (by simp [hk]))) (fun b hb => .inl hb)).below hB (fun b hb => ?_)
    rw [Option.mem_toList] at hb
    exact (h.lt b hb).1
theorem run_make_u8 (kl kc : IntKind) (n c : Nat) (hnc : n ≤ c) (h63 : c ≤ 1000000) (w : World) :
    (Instr.makeSlice 175 (.int kl (n : Int)) (.int kc (c : Int))).run Tryz.prog w = .ok (.slice (some ⟨w.heap.size, 0, none⟩) n c) (w.alloc (.cells (madeCells #[.int .u8 0] c) 5)) := by
  obtain ⟨i, hi, hz, h1, h8⟩ := info_parts (P := Tryz.prog) (e := 5) (z := .int .u8 0) (size := 1) (bytes := 1) (by kernel_rfl)
  have hr := run_make (P := Tryz.prog) w 175 5 i (.int .u8 0) Tryz.underlying175 hi hz kl kc n c (by omega) (by omega) (by rw [h8]; omega) (by omega)
  simp only [Int.toNat_natCast, h1, Nat.mul_one] at hr
  exact hr
theorem Bw.text {B : Nat} {w : World} {A : Option Addr} {c : Nat} {bs : List UInt8} (h : Bw B w (.slice A bs.length c) bs) : ∀ W : World, W = w → (convert 175 9 (.slice A bs.length c)).run Tryz.prog W = .ok (.string ⟨bs.toArray⟩) W := by
  rintro _ rfl
  rcases h.2 with ⟨e, h0⟩ | ⟨g, cap, cu, e, _⟩
  · have : bs = [] := List.eq_nil_of_length_eq_zero h0
    subst this
    cases e
    simp [convert, run_underlying Tryz.underlying175, run_underlying Tryz.underlying5, run_underlying Tryz.underlying9, Conv.bytesToString, loadCells, loadCellsFrom]
    rfl
  · cases e
    refine run_convert_bytes_back _ _ _ 5 _ _ bs Tryz.underlying175 Tryz.underlying5 Tryz.underlying9 fun j hj => ?_
    exact h.cells (g := g) rfl j _ (by rw [List.getElem?_map, List.getElem?_eq_getElem hj]; rfl)
theorem byj_nat (x j : Nat) : ((byj x j).toNat : Int) = ((x / 2 ^ (8 * j) % 256 : Nat) : Int) := by
  unfold byj
  rw [Nat.toUInt8_eq, UInt8.toNat_ofNat']
  simp
theorem by8_take {x j : Nat} (h : j < 8) : (by8 x).take (j + 1) = (by8 x).take j ++ [byj x j] := by
  unfold by8
  rw [List.take_add_one]
  congr 1
  rw [List.getElem?_map, List.getElem?_range h]
  rfl
theorem by8_all (x : Nat) : (by8 x).take 8 = by8 x := List.take_of_length_le (by simp [by8])
theorem pkl_take {xs : List Nat} {k : Nat} (h : k < xs.length) : pkl (xs.take (k + 1)) = pkl (xs.take k) ++ by8 (xs.getD k 0) := by
  unfold pkl
  rw [List.take_add_one, List.flatMap_append, List.getElem?_eq_getElem h]
  simp [List.getD, List.getElem?_eq_getElem h]
theorem shr_byte (x j : Nat) (hx : x < 18446744073709551616) (hj : j < 8) : binOp .shr 128 (.int .u64 (x : Int)) (.int .i64 ((8 * j : Nat) : Int)) = pure (.int .u64 ((x / 2 ^ (8 * j) : Nat) : Int)) := by
  show Op.shift .shr .u64 (x : Int) .i64 ((8 * j : Nat) : Int) = _
  rw [shift_shr_any _ _ _ _ (by omega)]
  rw [show min (((8 * j : Nat) : Int).toNat) IntKind.u64.bits = 8 * j from by show min _ 64 = _; omega]
  simp
theorem packed_ints (A : Option Addr) (c : Nat) (xs : List Nat) (T : List Nat) (w : World) (hx : Ir T w A (xs.map fun (x : Nat) => (x : Int))) (lx : ∀ x ∈ xs, x < 9223372036854775808) (hl : xs.length ≤ 1000) :
    Calls Tryz.prog 105 #[.slice A xs.length c] w fun e w' => e = .returned (.string (pk xs)) ∧ Below w.heap.size w w' := by
  have hmk : ∀ W : World, (Instr.makeSlice 175 (.int .i64 0) (.int .i64 (8 * (xs.length : Int)))).run Tryz.prog W = .ok (.slice (some ⟨W.heap.size, 0, none⟩) 0 (8 * xs.length)) (W.alloc (.cells (madeCells #[.int .u8 0] (8 * xs.length)) 5)) := fun W => by
    have := run_make_u8 .i64 .i64 0 (8 * xs.length) (Nat.zero_le _) (by omega) W
    simpa using this
  have hM := hide (Bw.made (B := w.heap.size) (cap := 8 * xs.length) w (Nat.le_refl _) (by unfold maxLen; omega))
  have hbl : Below w.heap.size w (w.alloc (.cells (madeCells #[.int .u8 0] (8 * xs.length)) 5)) := (Below.refl _ _).alloc (Nat.le_refl _) _
  replace hbl := hide hbl
  have hcl : ∀ k, k < xs.length → ∃ b o, A = some ⟨b, o, none⟩ ∧ ∀ wr, Below w.heap.size w wr → wr.cell? ⟨b, o + k, none⟩ = some (.int .i64 ((xs.getD k 0 : Nat) : Int)) := by
    intro k hk
    rcases hx with he | ⟨b, o, rfl, hb, _, hc⟩
    · have := congrArg List.length he; rw [List.length_map, List.length_nil] at this; omega
    · refine ⟨b, o, rfl, fun wr hwr => ?_⟩
      have := hc k (by simpa using hk)
      rw [(hwr.cell (p := ⟨b, o + k, none⟩) hb).trans this]
      simp [List.getD, List.getElem?_eq_getElem hk]
  replace hcl := hide hcl
  replace lx := hide lx
  clear hx
  obtain ⟨m, hm⟩ : ∃ m, m = xs.length := ⟨_, rfl⟩
  rw [← hm] at hmk hM hbl hcl hl ⊢
  replace hm := hide hm
  go_enter Tryz.func105, Tryz.ntmps105
  go_wp2
  clear hmk
  go_loopw [3, 13] (fun v i wr => ∃ (k n c : Nat) (B : Option Addr), k ≤ m ∧ i = .int .i64 (k : Int) ∧ v = .slice B n c ∧ n = (pkl (xs.take k)).length ∧ Bw w.heap.size wr (.slice B n c) (pkl (xs.take k)) ∧ Below w.heap.size w wr) (fun _ i _ => m - (intOf i).toNat)
  case atStart => exact ⟨0, 0, _, _, Nat.zero_le _, rfl, rfl, rfl, hM.out, hbl.out⟩
  case round =>
    obtain ⟨k, n, cc, B', hk, rfl, rfl, hn, hB, hb⟩ := hrel
    by_cases hlt : k < m
    · obtain ⟨b', o, rfl, hc⟩ := hcl.out k hlt
      replace hc := hc wr hb
      have hkl : k < xs.length := by rw [← hm.out]; exact hlt
      have hx1 : xs.getD k 0 < 9223372036854775808 := lx.out _ (by
        have : xs.getD k 0 = xs[k] := by simp [List.getD, List.getElem?_eq_getElem hkl]
        rw [this]; exact List.getElem_mem hkl)
      have hnx := hide (pkl_take hkl)
      have hn8 : n ≤ 8 * k := by
        rw [hn, pkl_length, List.length_take]; omega
      generalize xs.getD k 0 = x at *
      replace hn := hide hn
      replace hB := hide hB
      replace hb := hide hb
      go_wp2
      go_loopw [3, 6] (fun v i wr => ∃ (j n' c : Nat) (B : Option Addr), j ≤ 8 ∧ i = .int .i64 ((8 * j : Nat) : Int) ∧ v = .slice B n' c ∧ n' = n + j ∧ Bw w.heap.size wr (.slice B n' c) (pkl (xs.take k) ++ (by8 x).take j) ∧ Below w.heap.size w wr) (fun _ i _ => 64 - (intOf i).toNat)
      case atStart => exact ⟨0, n, _, _, Nat.zero_le _, rfl, rfl, rfl, by simpa using hB.out, hb.out⟩
      case round =>
        obtain ⟨j, n', c', B2, hj, rfl, rfl, hn', hB2, hb2⟩ := hrel
        by_cases hj8 : j < 8
        · have hlen : (pkl (xs.take k) ++ (by8 x).take j).length = n' := by
            rw [List.length_append, ← hn.out, hn', List.length_take]
            simp [by8]
            omega
          have hsz : n' ≤ 8 * k + 8 := by omega
          obtain ⟨A3, c3, w3, hrun, hB3, hb3⟩ := hB2.push (by exact hb2.size) (byj x j) (by rw [hlen]; omega)
          rw [hlen] at hrun hB3
          rw [List.append_assoc, ← by8_take hj8] at hB3
          have hs := shr_byte x j (by omega) hj8
          unfold bv at hrun
          rw [byj_nat] at hrun
          have hy : x / 2 ^ (8 * j) < 18446744073709551616 := Nat.lt_of_le_of_lt (Nat.div_le_self _ _) (by omega)
          have hmod : x / 2 ^ (8 * j) % 256 < 256 := Nat.mod_lt _ (by decide)
          have hw8 : IntKind.u8.wrap ((x / 2 ^ (8 * j) : Nat) : Int) = ((x / 2 ^ (8 * j) % 256 : Nat) : Int) := by
            simp [IntKind.wrap, IntKind.bits, IntKind.signed]
          generalize x / 2 ^ (8 * j) % 256 = z at *
          generalize x / 2 ^ (8 * j) = y at *
          replace hB3 := hide hB3
          replace hb3 := hide (hb2.trans hb3)
          replace hn' := hide hn'
          clear hB2 hb2 hlen
          have hj64 : 8 * j < 64 := by omega
          obtain ⟨q, hq⟩ : ∃ q, q = 8 * j := ⟨_, rfl⟩
          rw [← hq] at hs hj64 ⊢
          replace hq := hide hq
          go_wp2_with (at_builtin; refine wpList_append_run _ rfl _ _ _ rfl _ _ _ _ rfl rfl hrun ?_)
          go_roundw
          case rel => exact ⟨j + 1, n' + 1, _, _, hj8, by rw [hq.out]; rfl, rfl, by rw [hn'.out]; rfl, hB3.out, hb3.out⟩
          case measure => simp only [intOf]; omega
        · have hj9 : j = 8 := by omega
          subst hj9
          rw [by8_all, ← hnx.out] at hB2
          replace hB2 := hide hB2
          replace hb2 := hide hb2
          have hn2 : n' = (pkl (xs.take (k + 1))).length := by
            rw [hn', hn.out, hnx.out, List.length_append]; simp [by8]
          replace hn2 := hide hn2
          clear hn'
          go_wp2
          go_roundw
          case rel => exact ⟨k + 1, n', _, _, hlt, rfl, rfl, hn2.out, hB2.out, hb2.out⟩
          case measure => simp only [intOf]; omega
    · have hkm : k = m := by omega
      subst hkm
      rw [hm.out, List.take_length] at hn hB
      subst hn
      have htx := hB.text wr rfl
      replace hb := hide hb
      replace hB := hide hB
      go_wp2
      go_ret
      exact ⟨rfl, hb.out⟩
theorem packed_words (A : Option Addr) (c : Nat) (xs : List Nat) (w : World) (hx : Sl w A xs) (lx : ∀ x ∈ xs, x < 18446744073709551616) (hl : xs.length ≤ 1000) :
    Calls Tryz.prog 104 #[.slice A xs.length c] w fun e w' => e = .returned (.string (pk xs)) ∧ Below w.heap.size w w' := by
  have hmk : ∀ W : World, (Instr.makeSlice 175 (.int .i64 0) (.int .i64 (8 * (xs.length : Int)))).run Tryz.prog W = .ok (.slice (some ⟨W.heap.size, 0, none⟩) 0 (8 * xs.length)) (W.alloc (.cells (madeCells #[.int .u8 0] (8 * xs.length)) 5)) := fun W => by
    have := run_make_u8 .i64 .i64 0 (8 * xs.length) (Nat.zero_le _) (by omega) W
    simpa using this
  have hM := hide (Bw.made (B := w.heap.size) (cap := 8 * xs.length) w (Nat.le_refl _) (by unfold maxLen; omega))
  have hbl : Below w.heap.size w (w.alloc (.cells (madeCells #[.int .u8 0] (8 * xs.length)) 5)) := (Below.refl _ _).alloc (Nat.le_refl _) _
  replace hbl := hide hbl
  have hcl : ∀ k, k < xs.length → ∃ b o, A = some ⟨b, o, none⟩ ∧ ∀ wr, Below w.heap.size w wr → wr.cell? ⟨b, o + k, none⟩ = some (.int .u64 ((xs.getD k 0 : Nat) : Int)) := by
    intro k hk
    obtain ⟨b, o, rfl, hb, hc⟩ := hx.at_ (by omega)
    exact ⟨b, o, rfl, fun wr hwr => (hwr.cell (p := ⟨b, o + k, none⟩) hb).trans (hc k hk)⟩
  replace hcl := hide hcl
  replace lx := hide lx
  clear hx
  obtain ⟨m, hm⟩ : ∃ m, m = xs.length := ⟨_, rfl⟩
  rw [← hm] at hmk hM hbl hcl hl ⊢
  replace hm := hide hm
  go_enter Tryz.func104, Tryz.ntmps104
  go_wp2
  clear hmk
  go_loopw [3, 13] (fun v i wr => ∃ (k n c : Nat) (B : Option Addr), k ≤ m ∧ i = .int .i64 (k : Int) ∧ v = .slice B n c ∧ n = (pkl (xs.take k)).length ∧ Bw w.heap.size wr (.slice B n c) (pkl (xs.take k)) ∧ Below w.heap.size w wr) (fun _ i _ => m - (intOf i).toNat)
  case atStart => exact ⟨0, 0, _, _, Nat.zero_le _, rfl, rfl, rfl, hM.out, hbl.out⟩
  case round =>
    obtain ⟨k, n, cc, B', hk, rfl, rfl, hn, hB, hb⟩ := hrel
    by_cases hlt : k < m
    · obtain ⟨b', o, rfl, hc⟩ := hcl.out k hlt
      replace hc := hc wr hb
      have hkl : k < xs.length := by rw [← hm.out]; exact hlt
      have hx1 : xs.getD k 0 < 18446744073709551616 := lx.out _ (by
        have : xs.getD k 0 = xs[k] := by simp [List.getD, List.getElem?_eq_getElem hkl]
        rw [this]; exact List.getElem_mem hkl)
      have hnx := hide (pkl_take hkl)
      have hn8 : n ≤ 8 * k := by
        rw [hn, pkl_length, List.length_take]; omega
      generalize xs.getD k 0 = x at *
      replace hn := hide hn
      replace hB := hide hB
      replace hb := hide hb
      go_wp2
      go_loopw [3, 6] (fun v i wr => ∃ (j n' c : Nat) (B : Option Addr), j ≤ 8 ∧ i = .int .i64 ((8 * j : Nat) : Int) ∧ v = .slice B n' c ∧ n' = n + j ∧ Bw w.heap.size wr (.slice B n' c) (pkl (xs.take k) ++ (by8 x).take j) ∧ Below w.heap.size w wr) (fun _ i _ => 64 - (intOf i).toNat)
      case atStart => exact ⟨0, n, _, _, Nat.zero_le _, rfl, rfl, rfl, by simpa using hB.out, hb.out⟩
      case round =>
        obtain ⟨j, n', c', B2, hj, rfl, rfl, hn', hB2, hb2⟩ := hrel
        by_cases hj8 : j < 8
        · have hlen : (pkl (xs.take k) ++ (by8 x).take j).length = n' := by
            rw [List.length_append, ← hn.out, hn', List.length_take]
            simp [by8]
            omega
          have hsz : n' ≤ 8 * k + 8 := by omega
          obtain ⟨A3, c3, w3, hrun, hB3, hb3⟩ := hB2.push (by exact hb2.size) (byj x j) (by rw [hlen]; omega)
          rw [hlen] at hrun hB3
          rw [List.append_assoc, ← by8_take hj8] at hB3
          have hs := shr_byte x j (by omega) hj8
          unfold bv at hrun
          rw [byj_nat] at hrun
          have hy : x / 2 ^ (8 * j) < 18446744073709551616 := Nat.lt_of_le_of_lt (Nat.div_le_self _ _) (by omega)
          have hmod : x / 2 ^ (8 * j) % 256 < 256 := Nat.mod_lt _ (by decide)
          have hw8 : IntKind.u8.wrap ((x / 2 ^ (8 * j) : Nat) : Int) = ((x / 2 ^ (8 * j) % 256 : Nat) : Int) := by
            simp [IntKind.wrap, IntKind.bits, IntKind.signed]
          generalize x / 2 ^ (8 * j) % 256 = z at *
          generalize x / 2 ^ (8 * j) = y at *
          replace hB3 := hide hB3
          replace hb3 := hide (hb2.trans hb3)
          replace hn' := hide hn'
          clear hB2 hb2 hlen
          have hj64 : 8 * j < 64 := by omega
          obtain ⟨q, hq⟩ : ∃ q, q = 8 * j := ⟨_, rfl⟩
          rw [← hq] at hs hj64 ⊢
          replace hq := hide hq
          go_wp2_with (at_builtin; refine wpList_append_run _ rfl _ _ _ rfl _ _ _ _ rfl rfl hrun ?_)
          go_roundw
          case rel => exact ⟨j + 1, n' + 1, _, _, hj8, by rw [hq.out]; rfl, rfl, by rw [hn'.out]; rfl, hB3.out, hb3.out⟩
          case measure => simp only [intOf]; omega
        · have hj9 : j = 8 := by omega
          subst hj9
          rw [by8_all, ← hnx.out] at hB2
          replace hB2 := hide hB2
          replace hb2 := hide hb2
          have hn2 : n' = (pkl (xs.take (k + 1))).length := by
            rw [hn', hn.out, hnx.out, List.length_append]; simp [by8]
          replace hn2 := hide hn2
          clear hn'
          go_wp2
          go_roundw
          case rel => exact ⟨k + 1, n', _, _, hlt, rfl, rfl, hn2.out, hB2.out, hb2.out⟩
          case measure => simp only [intOf]; omega
    · have hkm : k = m := by omega
      subst hkm
      rw [hm.out, List.take_length] at hn hB
      subst hn
      have htx := hB.text wr rfl
      replace hb := hide hb
      replace hB := hide hB
      go_wp2
      go_ret
      exact ⟨rfl, hb.out⟩
def nv (op : Int) (nm : ByteArray) (ng : Bool) (A : Option Addr) (n c : Nat) (B : Option Addr) (m d : Nat) (C : Option Addr) (k e : Nat) (so : Int) : Array Value :=
  #[.int .i64 op, .string nm, .bool ng, .slice A n c, .slice B m d, .slice C k e, .int .i64 so]
def zeroKey : Array Value := #[.int .i64 0, .int .i64 0, .string ⟨#[]⟩, .bool false, .string ⟨#[]⟩, .string ⟨#[]⟩, .string ⟨#[]⟩]
structure Ky (w : World) (cur : Array Value) (W : World) : Prop where
  bl : Below w.heap.size w W
  x1 : Bk w.heap.size cur 115 W
  x2 : ∃ u0 u1 u2 u3 u4 u5 u6, Bk (w.heap.size + 1) #[u0, u1, u2, u3, u4, u5, u6] 149 W
theorem Ky.next {w : World} {cur : Array Value} {W W' : World} (h : Ky w cur W) (hb : Below W.heap.size W W') : Ky w cur W' := ⟨h.bl.trans (hb.mono h.bl.size), h.x1.next hb, (by obtain ⟨u0, u1, u2, u3, u4, u5, u6, h2⟩ := h.x2; exact ⟨u0, u1, u2, u3, u4, u5, u6, h2.next hb⟩)⟩
theorem Ky.drew {w : World} {cur : Array Value} {W : World} (h : Ky w cur W) : Ky w cur W.drew := h.next (((Off.refl [] W).drew).below (Nat.le_refl _) (by simp))
theorem Ky.start (w : World) (cur : Array Value) : Ky w cur ((w.alloc (.cells cur 115)).alloc (.cells zeroKey 149)) :=
  ⟨((Below.refl _ _).alloc (Nat.le_refl _) _).alloc (by simp) _, (Bk.new _ _ w).al _, ⟨_, _, _, _, _, _, _, Bk.new1 _ _ w _⟩⟩
theorem Ky.cells {w : World} {op : Int} {nm : ByteArray} {ng : Bool} {A : Option Addr} {n c : Nat} {B : Option Addr} {m d : Nat} {C : Option Addr} {k e : Nat} {so : Int} {W : World} (h : Ky w (nv op nm ng A n c B m d C k e so) W) :
    W.cell? ⟨w.heap.size, 0, none⟩ = some (.int .i64 op) ∧ W.cell? ⟨w.heap.size, 1, none⟩ = some (.string nm) ∧ W.cell? ⟨w.heap.size, 2, none⟩ = some (.bool ng) ∧ W.cell? ⟨w.heap.size, 3, none⟩ = some (.slice A n c) ∧
    W.cell? ⟨w.heap.size, 4, none⟩ = some (.slice B m d) ∧ W.cell? ⟨w.heap.size, 5, none⟩ = some (.slice C k e) ∧ W.cell? ⟨w.heap.size, 6, none⟩ = some (.int .i64 so) :=
  ⟨h.x1.cell rfl, h.x1.cell rfl, h.x1.cell rfl, h.x1.cell rfl, h.x1.cell rfl, h.x1.cell rfl, h.x1.cell rfl⟩
def Kq (w : World) (cur : Array Value) (W : World) : Prop := Ky w cur W
theorem S_key {w : World} {op : Int} {nm : ByteArray} {ng : Bool} {A : Option Addr} {n c : Nat} {B : Option Addr} {m d : Nat} {C : Option Addr} {k e : Nat} {so : Int} {W : World} (h : Ky w (nv op nm ng A n c B m d C k e so) W) :
    W.cell? ⟨w.heap.size, 0, none⟩ = some (.int .i64 op) ∧ W.cell? ⟨w.heap.size, 1, none⟩ = some (.string nm) ∧ W.cell? ⟨w.heap.size, 2, none⟩ = some (.bool ng) ∧ W.cell? ⟨w.heap.size, 3, none⟩ = some (.slice A n c) ∧
    W.cell? ⟨w.heap.size, 4, none⟩ = some (.slice B m d) ∧ W.cell? ⟨w.heap.size, 5, none⟩ = some (.slice C k e) ∧ W.cell? ⟨w.heap.size, 6, none⟩ = some (.int .i64 so) ∧ Kq w (nv op nm ng A n c B m d C k e so) W := by
  obtain ⟨h0, h1, h2, h3, h4, h5, h6⟩ := h.cells
  exact ⟨h0, h1, h2, h3, h4, h5, h6, h⟩
theorem Ky.stored {w : World} {cur : Array Value} {W : World} (h : Ky w cur W) (j : Nat) (v : Value) : Ky w cur (W.setCell ⟨w.heap.size + 1, j, none⟩ v) := by
  obtain ⟨u0, u1, u2, u3, u4, u5, u6, h2⟩ := h.x2
  have hO : Off [w.heap.size + 1] W (W.setCell ⟨w.heap.size + 1, j, none⟩ v) := (Off.refl _ _).setCell _ _ (.inl (by simp))
  refine ⟨h.bl.trans (hO.below h.bl.size (by intro b hb; simp at hb; omega)), h.x1.off hO (by simp), ?_⟩
  match j with
  | 0 => exact ⟨_, _, _, _, _, _, _, h2.set v rfl⟩
  | 1 => exact ⟨_, _, _, _, _, _, _, h2.set v rfl⟩
  | 2 => exact ⟨_, _, _, _, _, _, _, h2.set v rfl⟩
  | 3 => exact ⟨_, _, _, _, _, _, _, h2.set v rfl⟩
  | 4 => exact ⟨_, _, _, _, _, _, _, h2.set v rfl⟩
  | 5 => exact ⟨_, _, _, _, _, _, _, h2.set v rfl⟩
  | 6 => exact ⟨_, _, _, _, _, _, _, h2.set v rfl⟩
  | n + 7 => exact ⟨u0, u1, u2, u3, u4, u5, u6, h2.set v (by simp [Array.setIfInBounds])⟩
theorem Ky.stored7 {w : World} {cur : Array Value} {W : World} (h : Ky w cur W) (v0 v1 v2 v3 v4 v5 v6 : Value) : Ky w cur (((((((W.setCell ⟨w.heap.size + 1, 0, none⟩ v0).setCell ⟨w.heap.size + 1, 1, none⟩ v1).setCell ⟨w.heap.size + 1, 2, none⟩ v2).setCell ⟨w.heap.size + 1, 3, none⟩ v3).setCell ⟨w.heap.size + 1, 4, none⟩ v4).setCell ⟨w.heap.size + 1, 5, none⟩ v5).setCell ⟨w.heap.size + 1, 6, none⟩ v6) :=
  ((((((h.stored 0 v0).stored 1 v1).stored 2 v2).stored 3 v3).stored 4 v4).stored 5 v5).stored 6 v6
theorem Ky.free {w : World} {cur : Array Value} {W : World} (h : Ky w cur W) : W.frozen? ⟨w.heap.size + 1, 0, none⟩ = false ∧ W.frozen? ⟨w.heap.size + 1, 1, none⟩ = false ∧ W.frozen? ⟨w.heap.size + 1, 2, none⟩ = false ∧ W.frozen? ⟨w.heap.size + 1, 3, none⟩ = false ∧ W.frozen? ⟨w.heap.size + 1, 4, none⟩ = false ∧ W.frozen? ⟨w.heap.size + 1, 5, none⟩ = false ∧ W.frozen? ⟨w.heap.size + 1, 6, none⟩ = false := by
  obtain ⟨u0, u1, u2, u3, u4, u5, u6, h2⟩ := h.x2
  exact ⟨h2.free 0, h2.free 1, h2.free 2, h2.free 3, h2.free 4, h2.free 5, h2.free 6⟩
theorem Ky.keys {w : World} {cur : Array Value} {W : World} (h : Ky w cur W) : ∃ u0 u1 u2 u3 u4 u5 u6, W.cell? ⟨w.heap.size + 1, 0, none⟩ = some u0 ∧ W.cell? ⟨w.heap.size + 1, 1, none⟩ = some u1 ∧ W.cell? ⟨w.heap.size + 1, 2, none⟩ = some u2 ∧ W.cell? ⟨w.heap.size + 1, 3, none⟩ = some u3 ∧ W.cell? ⟨w.heap.size + 1, 4, none⟩ = some u4 ∧ W.cell? ⟨w.heap.size + 1, 5, none⟩ = some u5 ∧ W.cell? ⟨w.heap.size + 1, 6, none⟩ = some u6 := by
  obtain ⟨u0, u1, u2, u3, u4, u5, u6, h2⟩ := h.x2
  exact ⟨u0, u1, u2, u3, u4, u5, u6, h2.cell rfl, h2.cell rfl, h2.cell rfl, h2.cell rfl, h2.cell rfl, h2.cell rfl, h2.cell rfl⟩
theorem cast_toNat : ∀ {ar : List Int}, (∀ a ∈ ar, 0 ≤ a) → (ar.map Int.toNat).map (fun (x : Nat) => (x : Int)) = ar
  | [], _ => rfl
  | a :: l, h => by
    rw [List.map_cons, List.map_cons, cast_toNat (fun b hb => h b (List.mem_cons_of_mem _ hb))]
    have := h a (by simp)
    congr 1
    omega
theorem key_end {w : World} {cur : Array Value} {W : World} (h : Ky w cur W) (v0 v1 v2 v3 v4 v5 v6 : Value) {F : World}
    (hF : F = (((((((W.setCell ⟨w.heap.size + 1, 0, none⟩ v0).setCell ⟨w.heap.size + 1, 1, none⟩ v1).setCell ⟨w.heap.size + 1, 2, none⟩ v2).setCell ⟨w.heap.size + 1, 3, none⟩ v3).setCell ⟨w.heap.size + 1, 4, none⟩ v4).setCell ⟨w.heap.size + 1, 5, none⟩ v5).setCell ⟨w.heap.size + 1, 6, none⟩ v6)) :
    F.cell? ⟨w.heap.size + 1, 0, none⟩ = some v0 ∧ F.cell? ⟨w.heap.size + 1, 1, none⟩ = some v1 ∧ F.cell? ⟨w.heap.size + 1, 2, none⟩ = some v2 ∧ F.cell? ⟨w.heap.size + 1, 3, none⟩ = some v3 ∧ F.cell? ⟨w.heap.size + 1, 4, none⟩ = some v4 ∧ F.cell? ⟨w.heap.size + 1, 5, none⟩ = some v5 ∧ F.cell? ⟨w.heap.size + 1, 6, none⟩ = some v6 ∧ Below w.heap.size w F := by
  have hY : Bk (w.heap.size + 1) #[v0, v1, v2, v3, v4, v5, v6] 149 F := by
    rw [hF]
    obtain ⟨u0, u1, u2, u3, u4, u5, u6, h2⟩ := h.x2
    have g0 : Bk (w.heap.size + 1) #[v0, u1, u2, u3, u4, u5, u6] 149 _ := h2.set (j := 0) v0 rfl
    have g1 : Bk (w.heap.size + 1) #[v0, v1, u2, u3, u4, u5, u6] 149 _ := g0.set (j := 1) v1 rfl
    have g2 : Bk (w.heap.size + 1) #[v0, v1, v2, u3, u4, u5, u6] 149 _ := g1.set (j := 2) v2 rfl
    have g3 : Bk (w.heap.size + 1) #[v0, v1, v2, v3, u4, u5, u6] 149 _ := g2.set (j := 3) v3 rfl
    have g4 : Bk (w.heap.size + 1) #[v0, v1, v2, v3, v4, u5, u6] 149 _ := g3.set (j := 4) v4 rfl
    have g5 : Bk (w.heap.size + 1) #[v0, v1, v2, v3, v4, v5, u6] 149 _ := g4.set (j := 5) v5 rfl
    exact g5.set (j := 6) v6 rfl
  have hO : Off [w.heap.size + 1] W F := by
    rw [hF]
    exact (((((((Off.refl _ _).setCell _ _ (.inl (by simp))).setCell _ _ (.inl (by simp))).setCell _ _ (.inl (by simp))).setCell _ _ (.inl (by simp))).setCell _ _ (.inl (by simp))).setCell _ _ (.inl (by simp))).setCell _ _ (.inl (by simp))
  exact ⟨hY.cell rfl, hY.cell rfl, hY.cell rfl, hY.cell rfl, hY.cell rfl, hY.cell rfl, hY.cell rfl, h.bl.trans (hO.below h.bl.size (by intro b hb; simp at hb; omega))⟩
theorem keyOf_t (op : Int) (nm : ByteArray) (ng : Bool) (nu de : List Nat) (ar : List Int) (so wo : Int) (A B C : Option Addr) (c d e : Nat) (w : World) (T : List Nat) (hA : Rw T w A (us nu)) (hB : Rw T w B (us de)) (hC : Rw T w C (zs ar))
    (lA : ∀ x ∈ nu, x < 18446744073709551616) (lB : ∀ x ∈ de, x < 18446744073709551616) (lC : ∀ x ∈ ar, 0 ≤ x ∧ x < 9223372036854775808) (nA : nu.length ≤ 64) (nB : de.length ≤ 64) (nC : ar.length ≤ 64) :
    Calls Tryz.prog 81 #[.agg (nv op nm ng A nu.length c B de.length d C ar.length e so)] w fun ee w' => ee = .returned (kvl ⟨op, nm, ng, nu, de, ar, so, wo⟩) ∧ Below w.heap.size w w' := by
  have P1 := hide (fun W (k : Ky w (nv op nm ng A nu.length c B de.length d C ar.length e so) W) => packed_words A c nu W ((hA.off (T' := T) (Off.of_below k.bl []) (by simp) (fun b hb => .inl hb)).sl) lA (by omega))
  have P2 := hide (fun W (k : Ky w (nv op nm ng A nu.length c B de.length d C ar.length e so) W) => packed_words B d de W ((hB.off (T' := T) (Off.of_below k.bl []) (by simp) (fun b hb => .inl hb)).sl) lB (by omega))
  have P3 := hide (fun W (k : Ky w (nv op nm ng A nu.length c B de.length d C ar.length e so) W) => packed_ints C e (ar.map Int.toNat) T W (by rw [cast_toNat (fun a ha => (lC a ha).1)]; exact (hC.off (T' := T) (Off.of_below k.bl []) (by simp) (fun b hb => .inl hb)).ir) (by
    intro x hx
    obtain ⟨a, ha, rfl⟩ := List.mem_map.1 hx
    have := lC a ha
    omega) (by rw [List.length_map]; omega))
  rw [List.length_map] at P3
  have K0 := Ky.start w (nv op nm ng A nu.length c B de.length d C ar.length e so)
  unfold kvl kcs
  simp only
  clear hA hB hC lA lB lC
  generalize hn1 : nu.length = n1 at *
  generalize hn2 : de.length = n2 at *
  generalize hn3 : ar.length = n3 at *
  clear hn1 hn2 hn3
  generalize pk nu = s1 at *
  generalize pk de = s2 at *
  generalize pk (ar.map Int.toNat) = s3 at *
  replace K0 : Ky w (nv op nm ng A n1 c B n2 d C n3 e so) ((w.alloc (.cells #[.int .i64 op, .string nm, .bool ng, .slice A n1 c, .slice B n2 d, .slice C n3 e, .int .i64 so] 115)).alloc (.cells #[.int .i64 0, .int .i64 0, .string ⟨#[]⟩, .bool false, .string ⟨#[]⟩, .string ⟨#[]⟩, .string ⟨#[]⟩] 149)) := K0
  obtain ⟨x0, x1, x2, x3, x4, x5, x6⟩ := K0.cells
  replace K0 := hide K0
  unfold nv
  go_enter Tryz.func81, Tryz.ntmps81
  go_wp2
  go_region_held3 (fun W => W.cell? ⟨w.heap.size, 0, none⟩ = some (.int .i64 op) ∧ W.cell? ⟨w.heap.size, 1, none⟩ = some (.string nm) ∧ W.cell? ⟨w.heap.size, 2, none⟩ = some (.bool ng) ∧ W.cell? ⟨w.heap.size, 3, none⟩ = some (.slice A n1 c) ∧ W.cell? ⟨w.heap.size, 4, none⟩ = some (.slice B n2 d) ∧ W.cell? ⟨w.heap.size, 5, none⟩ = some (.slice C n3 e) ∧ W.cell? ⟨w.heap.size, 6, none⟩ = some (.int .i64 so) ∧ Kq w (nv op nm ng A n1 c B n2 d C n3 e so) W)
    (first | (with_reducible exact S_key (Ky.stored7 k3.out _ _ _ _ _ _ _)) | (with_reducible exact S_key k3.out) | (with_reducible exact S_key k3.out.drew) | (with_reducible exact S_key k2.out) | (with_reducible exact S_key k2.out.drew) | (with_reducible exact S_key k1.out) | (with_reducible exact S_key k1.out.drew) | (with_reducible exact S_key K0.out) | (with_reducible exact S_key K0.out.drew) | assumption)
    (first
      | (go_at_call 104; (with_reducible refine (P1.out _ (by first | exact K0.out | exact K0.out.drew)).mono ?_); rintro ee w1 ⟨rfl, hb⟩; have k1 := hide (Ky.next (by first | exact K0.out | exact K0.out.drew) hb); clear hb)
      | (go_at_call 104; (with_reducible refine (P2.out _ (by first | exact k1.out | exact k1.out.drew)).mono ?_); rintro ee w2 ⟨rfl, hb⟩; have k2 := hide (Ky.next (by first | exact k1.out | exact k1.out.drew) hb); clear hb)
      | (go_at_call 105; (with_reducible refine (P3.out _ (by first | exact k2.out | exact k2.out.drew)).mono ?_); rintro ee w3 ⟨rfl, hb⟩; have k3 := hide (Ky.next (by first | exact k2.out | exact k2.out.drew) hb); clear hb; obtain ⟨f0, f1, f2, f3, f4, f5, f6⟩ := k3.out.free; obtain ⟨u0, u1, u2, u3, u4, u5, u6, y0, y1, y2, y3, y4, y5, y6⟩ := k3.out.keys))
  go_wp2
  have E := hide (key_end k3.out (.int .i64 op) (.int .i64 so) (.string nm) (.bool ng) (.string s1) (.string s2) (.string s3) rfl)
  obtain ⟨F, hF⟩ : ∃ F, F = (((((((w3.setCell ⟨w.heap.size + 1, 0, none⟩ (.int .i64 op)).setCell ⟨w.heap.size + 1, 1, none⟩ (.int .i64 so)).setCell ⟨w.heap.size + 1, 2, none⟩ (.string nm)).setCell ⟨w.heap.size + 1, 3, none⟩ (.bool ng)).setCell ⟨w.heap.size + 1, 4, none⟩ (.string s1)).setCell ⟨w.heap.size + 1, 5, none⟩ (.string s2)).setCell ⟨w.heap.size + 1, 6, none⟩ (.string s3)) := ⟨_, rfl⟩
  rw [← hF] at E ⊢
  obtain ⟨z0, z1, z2, z3, z4, z5, z6, hB⟩ := E.out
  exact bodyPost_ret (v := .agg #[.int .i64 op, .int .i64 so, .string nm, .bool ng, .string s1, .string s2, .string s3]) (by simp [results, Tryz.results81, go_sem, z0, z1, z2, z3, z4, z5, z6]) rfl ⟨rfl, hB⟩
def Nw (w w' : World) (A : Option Addr) (vs : List Value) : Prop := ∀ S : List Nat, (∀ b ∈ S, b < w.heap.size) → Rw S w' A vs
theorem app_new {t e : TypeId} {z : Value} {bytes : Nat} (hinf : ∃ i : TypeInfo, Tryz.prog.info? e = some i ∧ i.zero = some z ∧ i.size = 1 ∧ i.bytes = bytes) (ht : Tryz.prog.underlying t = some (.slice e)) (hzs : z.cells.size = 1)
    (w : World) (A : Option Addr) (c : Nat) (vs : List Value) (T : List Nat) (hR : Rw T w A vs) (hone : ∀ u ∈ vs, u.oneCell' = true) (hm : vs.length ≤ 1000) (hb : bytes ≤ 1000) :
    ∃ A' c' w', (∀ ty, (Builtin.append_ #[t, t] ty #[.slice none 0 0, .slice A vs.length c]).run Tryz.prog w = .ok (.slice A' vs.length c') w') ∧ Nw w w' A' vs ∧ Below w.heap.size w w' := by
  obtain ⟨i, hi, hz, h1, h8⟩ := hinf
  have hbound : (0 + vs.length) * bytes ≤ 140737488355328 := by
    rw [Nat.zero_add]
    exact Nat.le_trans (Nat.mul_le_mul hm hb) (by decide)
  rcases hR with rfl | ⟨b, o, rfl, hbl, _, hc⟩
  · refine ⟨none, 0, w, fun ty => ?_, fun _ _ => .nil, .refl _ _⟩
    cases A <;> simp [Builtin.append_, run_underlying ht, sizeOf, typeInfo, hi, Builtin.lenOf, Builtin.firstCells, loadCells, loadCellsFrom]
  · obtain ⟨v', w', hr, h2, h3, h4⟩ := run_append_own (P := Tryz.prog) w w.heap.size t 0 e i z 1 bytes ht hi hz h1 h8 hzs (by decide) (.slice none 0 0) 0 [] (World.ownsRow_nil _ _ _ _) ⟨b, o, none⟩ vs.length c vs (by simp) (fun j u hj => by rw [Addr.add_lit]; exact hc j u hj) hone (by unfold maxLen; omega) hbound (Nat.le_refl _)
    have hbw : Below w.heap.size w w' := (Off.of_grown (T := []) h3 (by simp [Value.ownBlock])).below (Nat.le_refl _) (by simp)
    rw [Nat.zero_add] at h2
    rcases h2.2 with ⟨rfl, h0⟩ | ⟨g, cap, cur, rfl, hg, hcur, _, _, _, htk⟩
    · have : vs = [] := List.eq_nil_of_length_eq_zero h0
      subst this
      exact ⟨none, 0, w', fun ty => hr, fun _ _ => .nil, hbw⟩
    · refine ⟨_, cap, w', fun ty => hr, fun S hS => .inr ⟨g, 0, rfl, (Array.getElem?_eq_some_iff.1 hcur).1, fun hm => Nat.not_lt.2 hg (hS g hm), fun j v hj => ?_⟩, hbw⟩
      have := h2.cells (g := g) rfl j v (by simpa using hj)
      rwa [Addr.add_lit] at this
theorem infW : ∃ i : TypeInfo, Tryz.prog.info? 128 = some i ∧ i.zero = some (.int .u64 0) ∧ i.size = 1 ∧ i.bytes = 8 := info_parts (P := Tryz.prog) (e := 128) (z := .int .u64 0) (size := 1) (bytes := 8) (by kernel_rfl)
theorem infZ : ∃ i : TypeInfo, Tryz.prog.info? 3 = some i ∧ i.zero = some (.int .i64 0) ∧ i.size = 1 ∧ i.bytes = 8 := info_parts (P := Tryz.prog) (e := 3) (z := .int .i64 0) (size := 1) (bytes := 8) (by kernel_rfl)
theorem us_one (xs : List Nat) : ∀ u ∈ us xs, u.oneCell' = true := by
  intro u hu
  obtain ⟨x, _, rfl⟩ := List.mem_map.1 hu
  rfl
theorem zs_one (xs : List Int) : ∀ u ∈ zs xs, u.oneCell' = true := by
  intro u hu
  obtain ⟨x, _, rfl⟩ := List.mem_map.1 hu
  rfl
theorem us_len (xs : List Nat) : (us xs).length = xs.length := by simp [us]
theorem zs_len (xs : List Int) : (zs xs).length = xs.length := by simp [zs]
theorem cells7 {g : Nat} {t : TypeId} {W : World} {v0 v1 v2 v3 v4 v5 v6 : Value} (h : Bk g #[v0, v1, v2, v3, v4, v5, v6] t W) :
    W.cell? ⟨g, 0, none⟩ = some v0 ∧ W.cell? ⟨g, 1, none⟩ = some v1 ∧ W.cell? ⟨g, 2, none⟩ = some v2 ∧ W.cell? ⟨g, 3, none⟩ = some v3 ∧ W.cell? ⟨g, 4, none⟩ = some v4 ∧ W.cell? ⟨g, 5, none⟩ = some v5 ∧ W.cell? ⟨g, 6, none⟩ = some v6 :=
  ⟨h.cell rfl, h.cell rfl, h.cell rfl, h.cell rfl, h.cell rfl, h.cell rfl, h.cell rfl⟩
theorem free7 {g : Nat} {t : TypeId} {W : World} {cur : Array Value} (h : Bk g cur t W) :
    W.frozen? ⟨g, 0, none⟩ = false ∧ W.frozen? ⟨g, 1, none⟩ = false ∧ W.frozen? ⟨g, 2, none⟩ = false ∧ W.frozen? ⟨g, 3, none⟩ = false ∧ W.frozen? ⟨g, 4, none⟩ = false ∧ W.frozen? ⟨g, 5, none⟩ = false ∧ W.frozen? ⟨g, 6, none⟩ = false :=
  ⟨h.free 0, h.free 1, h.free 2, h.free 3, h.free 4, h.free 5, h.free 6⟩
def set7 (W : World) (g : Nat) (v0 v1 v2 v3 v4 v5 v6 : Value) : World :=
  ((((((W.setCell ⟨g, 0, none⟩ v0).setCell ⟨g, 1, none⟩ v1).setCell ⟨g, 2, none⟩ v2).setCell ⟨g, 3, none⟩ v3).setCell ⟨g, 4, none⟩ v4).setCell ⟨g, 5, none⟩ v5).setCell ⟨g, 6, none⟩ v6
theorem bk_set7 {g : Nat} {t : TypeId} {W : World} {u0 u1 u2 u3 u4 u5 u6 : Value} (h2 : Bk g #[u0, u1, u2, u3, u4, u5, u6] t W) (v0 v1 v2 v3 v4 v5 v6 : Value) : Bk g #[v0, v1, v2, v3, v4, v5, v6] t (set7 W g v0 v1 v2 v3 v4 v5 v6) := by
  have g0 : Bk g #[v0, u1, u2, u3, u4, u5, u6] t _ := h2.set (j := 0) v0 rfl
  have g1 : Bk g #[v0, v1, u2, u3, u4, u5, u6] t _ := g0.set (j := 1) v1 rfl
  have g2 : Bk g #[v0, v1, v2, u3, u4, u5, u6] t _ := g1.set (j := 2) v2 rfl
  have g3 : Bk g #[v0, v1, v2, v3, u4, u5, u6] t _ := g2.set (j := 3) v3 rfl
  have g4 : Bk g #[v0, v1, v2, v3, v4, u5, u6] t _ := g3.set (j := 4) v4 rfl
  have g5 : Bk g #[v0, v1, v2, v3, v4, v5, u6] t _ := g4.set (j := 5) v5 rfl
  exact g5.set (j := 6) v6 rfl
theorem off_set7 (W : World) (g : Nat) (v0 v1 v2 v3 v4 v5 v6 : Value) : Off [g] W (set7 W g v0 v1 v2 v3 v4 v5 v6) :=
  (((((((Off.refl _ _).setCell _ _ (.inl (by simp))).setCell _ _ (.inl (by simp))).setCell _ _ (.inl (by simp))).setCell _ _ (.inl (by simp))).setCell _ _ (.inl (by simp))).setCell _ _ (.inl (by simp))).setCell _ _ (.inl (by simp))
theorem own_t (op : Int) (nm : ByteArray) (ng : Bool) (nu de : List Nat) (ar : List Int) (so : Int) (A B C : Option Addr) (c d e : Nat) (w : World) (T : List Nat) (hA : Rw T w A (us nu)) (hB : Rw T w B (us de)) (hC : Rw T w C (zs ar))
    (nA : nu.length ≤ 64) (nB : de.length ≤ 64) (nC : ar.length ≤ 64) :
    Calls Tryz.prog 82 #[.agg (nv op nm ng A nu.length c B de.length d C ar.length e so)] w fun ee w' => ∃ A' c' B' d' C' e', ee = .returned (.agg (nv op nm ng A' nu.length c' B' de.length d' C' ar.length e' so)) ∧
      Nw w w' A' (us nu) ∧ Nw w w' B' (us de) ∧ Nw w w' C' (zs ar) ∧ Below w.heap.size w w' := by
  obtain ⟨W, hW⟩ : ∃ W, W = (w.alloc (.cells #[.int .i64 op, .string nm, .bool ng, .slice A nu.length c, .slice B de.length d, .slice C ar.length e, .int .i64 so] 115)).alloc (.cells #[.int .i64 0, .string ⟨#[]⟩, .bool false, .slice none 0 0, .slice none 0 0, .slice none 0 0, .int .i64 0] 115) := ⟨_, rfl⟩
  obtain ⟨g, hg⟩ : ∃ g, g = w.heap.size := ⟨_, rfl⟩
  have hsz : W.heap.size = g + 1 + 1 := by rw [hW, hg]; simp
  have X1 : Bk g #[.int .i64 op, .string nm, .bool ng, .slice A nu.length c, .slice B de.length d, .slice C ar.length e, .int .i64 so] 115 W := by rw [hW, hg]; exact (Bk.new _ _ w).al _
  have X2 : Bk (g + 1) #[.int .i64 0, .string ⟨#[]⟩, .bool false, .slice none 0 0, .slice none 0 0, .slice none 0 0, .int .i64 0] 115 W := by rw [hW, hg]; exact Bk.new1 _ _ w _
  have hbW : Below w.heap.size w W := by rw [hW]; exact ((Below.refl _ _).alloc (Nat.le_refl _) _).alloc (by simp) _
  have hA0 : Rw T W A (us nu) := hA.next hbW
  obtain ⟨A', c', w1, r1, N1, b1⟩ := app_new infW Tryz.underlying26 rfl W A c _ T hA0 (us_one nu) (by rw [us_len]; omega) (by decide)
  rw [us_len] at r1
  have Y1 := X1.next b1
  have Y2 := X2.next b1
  have Z1 : Bk g #[.int .i64 op, .string nm, .bool ng, .slice A' nu.length c', .slice B de.length d, .slice C ar.length e, .int .i64 so] 115 (w1.setCell ⟨g, 3, none⟩ (.slice A' nu.length c')) := Y1.set (j := 3) _ rfl
  have O1 : Off [g, g + 1] w1 (w1.setCell ⟨g, 3, none⟩ (.slice A' nu.length c')) := (Off.refl _ _).setCell _ _ (.inl (by simp))
  have Z2 : Bk (g + 1) #[.int .i64 0, .string ⟨#[]⟩, .bool false, .slice none 0 0, .slice none 0 0, .slice none 0 0, .int .i64 0] 115 (w1.setCell ⟨g, 3, none⟩ (.slice A' nu.length c')) := Y2.set_far _ _ (by simp)
  have B1 : Below w.heap.size w (w1.setCell ⟨g, 3, none⟩ (.slice A' nu.length c')) := (hbW.trans (b1.mono hbW.size)).trans (O1.below (Nat.le_trans hbW.size b1.size) (by intro b hb; simp at hb; omega))
  obtain ⟨B', d', w2, r2, N2, b2⟩ := app_new infW Tryz.underlying26 rfl _ B d _ T (hB.next B1) (us_one de) (by rw [us_len]; omega) (by decide)
  rw [us_len] at r2
  have Y3 := Z1.next b2
  have Y4 := Z2.next b2
  have Z3 : Bk g #[.int .i64 op, .string nm, .bool ng, .slice A' nu.length c', .slice B' de.length d', .slice C ar.length e, .int .i64 so] 115 (w2.setCell ⟨g, 4, none⟩ (.slice B' de.length d')) := Y3.set (j := 4) _ rfl
  have O2 : Off [g, g + 1] w2 (w2.setCell ⟨g, 4, none⟩ (.slice B' de.length d')) := (Off.refl _ _).setCell _ _ (.inl (by simp))
  have Z4 : Bk (g + 1) #[.int .i64 0, .string ⟨#[]⟩, .bool false, .slice none 0 0, .slice none 0 0, .slice none 0 0, .int .i64 0] 115 (w2.setCell ⟨g, 4, none⟩ (.slice B' de.length d')) := Y4.set_far _ _ (by simp)
  have B2 : Below w.heap.size w (w2.setCell ⟨g, 4, none⟩ (.slice B' de.length d')) := (B1.trans (b2.mono B1.size)).trans (O2.below (Nat.le_trans B1.size b2.size) (by intro b hb; simp at hb; omega))
  obtain ⟨C', e', w3, r3, N3, b3⟩ := app_new infZ Tryz.underlying57 rfl _ C e _ T (hC.next B2) (zs_one ar) (by rw [zs_len]; omega) (by decide)
  rw [zs_len] at r3
  have Y5 := Z3.next b3
  have Y6 := Z4.next b3
  have B3 := B2.trans (b3.mono B2.size)
  have hs1 : g + 1 + 1 ≤ w1.heap.size := by rw [← hsz]; exact b1.size
  have hend : ∀ F, F = set7 (w3.setCell ⟨g, 5, none⟩ (.slice C' ar.length e')) (g + 1) (.int .i64 op) (.string nm) (.bool ng) (.slice A' nu.length c') (.slice B' de.length d') (.slice C' ar.length e') (.int .i64 so) →
      Bk (g + 1) #[.int .i64 op, .string nm, .bool ng, .slice A' nu.length c', .slice B' de.length d', .slice C' ar.length e', .int .i64 so] 115 F ∧ Nw w F A' (us nu) ∧ Nw w F B' (us de) ∧ Nw w F C' (zs ar) ∧ Below w.heap.size w F := by
    rintro F rfl
    have Z6 : Bk (g + 1) #[.int .i64 0, .string ⟨#[]⟩, .bool false, .slice none 0 0, .slice none 0 0, .slice none 0 0, .int .i64 0] 115 (w3.setCell ⟨g, 5, none⟩ (.slice C' ar.length e')) := Y6.set_far _ _ (by simp)
    have O3 : Off [g, g + 1] w3 (set7 (w3.setCell ⟨g, 5, none⟩ (.slice C' ar.length e')) (g + 1) (.int .i64 op) (.string nm) (.bool ng) (.slice A' nu.length c') (.slice B' de.length d') (.slice C' ar.length e') (.int .i64 so)) :=
      ((Off.refl [g, g + 1] _).setCell _ _ (.inl (by simp))).trans ((off_set7 _ _ _ _ _ _ _ _ _).more (by simp)) (fun b hb => .inl hb)
    have hin : ∀ S : List Nat, (∀ b ∈ S, b < w.heap.size) → ∀ V : World, g + 1 + 1 ≤ V.heap.size → ∀ b ∈ [g, g + 1] ++ S, b < V.heap.size := by
      intro S hS V hV b hb
      rcases List.mem_append.1 hb with h | h
      · simp at h; omega
      · have := hS b h; omega
    have hsub : ∀ S : List Nat, ∀ V : World, ∀ b ∈ [g, g + 1], b ∈ [g, g + 1] ++ S ∨ V.heap.size ≤ b := fun S V b hb => .inl (List.mem_append_left _ hb)
    have hs2 : g + 1 + 1 ≤ (w1.setCell ⟨g, 3, none⟩ (.slice A' nu.length c')).heap.size := by rw [setCell_size]; exact hs1
    have hs3 : g + 1 + 1 ≤ (w2.setCell ⟨g, 4, none⟩ (.slice B' de.length d')).heap.size := by rw [setCell_size]; exact Nat.le_trans hs2 b2.size
    refine ⟨bk_set7 Z6 _ _ _ _ _ _ _, fun S hS => ?_, fun S hS => ?_, fun S hS => ?_, B3.trans (O3.below B3.size (by intro b hb; simp at hb; omega))⟩
    · have k1 := N1 ([g, g + 1] ++ S) (hin S hS W (by omega))
      have k2 := k1.off (T' := [g, g + 1] ++ S) O1 (hsub S _) (fun b hb => .inl hb)
      have k3 := (k2.next b2).off (T' := [g, g + 1] ++ S) O2 (hsub S _) (fun b hb => .inl hb)
      exact (k3.next b3).off (T' := S) O3 (hsub S _) (fun b hb => .inl (List.mem_append_right _ hb))
    · have k2 := N2 ([g, g + 1] ++ S) (hin S hS _ hs2)
      have k3 := k2.off (T' := [g, g + 1] ++ S) O2 (hsub S _) (fun b hb => .inl hb)
      exact (k3.next b3).off (T' := S) O3 (hsub S _) (fun b hb => .inl (List.mem_append_right _ hb))
    · have k3 := N3 ([g, g + 1] ++ S) (hin S hS _ hs3)
      exact k3.off (T' := S) O3 (hsub S _) (fun b hb => .inl (List.mem_append_right _ hb))
  replace hend := hide hend
  obtain ⟨p0, p1, p2, p3, p4, p5, p6⟩ := cells7 Y1
  obtain ⟨q0, q1, q2, q3, q4, q5, q6⟩ := cells7 Y3
  obtain ⟨x0, x1, x2, x3, x4, x5, x6⟩ := cells7 Y5
  obtain ⟨y0, y1, y2, y3, y4, y5, y6⟩ := cells7 Y6
  have f3 := Y1.free 3
  have f4 := Y3.free 4
  have f5 := Y5.free 5
  obtain ⟨k0, k1, k2, k3, k4, k5, k6⟩ := free7 Y6
  rw [hW] at r1
  rw [hg] at r2 r3 p0 p1 p2 p3 p4 p5 p6 q0 q1 q2 q3 q4 q5 q6 x0 x1 x2 x3 x4 x5 x6 y0 y1 y2 y3 y4 y5 y6 f3 f4 f5 k0 k1 k2 k3 k4 k5 k6 hend
  clear X1 X2 Y1 Y2 Y3 Y4 Y5 Y6 Z1 Z2 Z3 Z4 O1 O2 B1 B2 B3 b1 b2 b3 N1 N2 N3 hA hB hC hA0 hbW hsz hs1 hW hg
  generalize nu.length = n1 at *
  generalize de.length = n2 at *
  generalize ar.length = n3 at *
  unfold nv
  go_enter Tryz.func82, Tryz.ntmps82
  go_wp2_with (first
    | (at_builtin; refine wpList_append_run _ rfl _ _ _ rfl _ _ _ _ rfl rfl r1 ?_)
    | (at_builtin; refine wpList_append_run _ rfl _ _ _ rfl _ _ _ _ rfl rfl r2 ?_)
    | (at_builtin; refine wpList_append_run _ rfl _ _ _ rfl _ _ _ _ rfl rfl r3 ?_))
  obtain ⟨F, hF⟩ : ∃ F, F = set7 (w3.setCell ⟨w.heap.size, 5, none⟩ (.slice C' n3 e')) (w.heap.size + 1) (.int .i64 op) (.string nm) (.bool ng) (.slice A' n1 c') (.slice B' n2 d') (.slice C' n3 e') (.int .i64 so) := ⟨_, rfl⟩
  obtain ⟨hY, e1, e2, e3, e4⟩ := hend.out F hF
  obtain ⟨z0, z1, z2, z3, z4, z5, z6⟩ := cells7 hY
  unfold set7 at hF
  rw [← hF]
  exact bodyPost_ret (v := .agg #[.int .i64 op, .string nm, .bool ng, .slice A' n1 c', .slice B' n2 d', .slice C' n3 e', .int .i64 so]) (by simp [results, Tryz.results82, go_sem, z0, z1, z2, z3, z4, z5, z6]) rfl ⟨A', c', B', d', C', e', rfl, e1, e2, e3, e4⟩
def wOf (ns : List Nd) (op : Int) (nu : List Nat) (ar : List Int) : Int :=
  if op = 11 then (if nu = [] then 1 else 2) else if (op = 14 ∧ ar.length = 1) ∨ op = 16 then woAt ns (ar.getD 0 0) else 0
theorem worth_t (q cc : Nat) (A0 : Option Addr) (ns : List Nd) (op : Int) (nm : ByteArray) (ng : Bool) (nu de : List Nat) (ar : List Int) (so : Int) (A B C : Option Addr) (c d e : Nat) (T : List Nat) (w : World) (h : Vw w q A0 cc ns) (hC : Ir T w C ar)
    (hin : ∀ a ∈ ar, 0 ≤ a ∧ a < (ns.length : Int)) (hl : ar.length ≤ 1000000) (hn : nu.length ≤ 1000000) (h16 : op = 16 → 0 < ar.length) :
    Calls Tryz.prog 83 #[.pointer (some ⟨q, 0, none⟩), .agg (nv op nm ng A nu.length c B de.length d C ar.length e so)] w fun e w' => e = .returned (.int .i64 (wOf ns op nu ar)) ∧ Below w.heap.size w w' := by
  obtain ⟨r, hr⟩ : ∃ r, r = wOf ns op nu ar := ⟨_, rfl⟩
  rw [← hr]
  have hb : Below w.heap.size w (w.alloc (.cells #[.int .i64 op, .string nm, .bool ng, .slice A nu.length c, .slice B de.length d, .slice C ar.length e, .int .i64 so] 115)) := (Below.refl _ _).alloc (Nat.le_refl _) _
  have X1 : Bk w.heap.size #[.int .i64 op, .string nm, .bool ng, .slice A nu.length c, .slice B de.length d, .slice C ar.length e, .int .i64 so] 115 (w.alloc (.cells #[.int .i64 op, .string nm, .bool ng, .slice A nu.length c, .slice B de.length d, .slice C ar.length e, .int .i64 so] 115)) := Bk.new _ _ w
  obtain ⟨W, hW⟩ : ∃ W, W = w.alloc (.cells #[.int .i64 op, .string nm, .bool ng, .slice A nu.length c, .slice B de.length d, .slice C ar.length e, .int .i64 so] 115) := ⟨_, rfl⟩
  have hv := h.next hb
  have hC' := hC.off (T' := T) (Off.of_below hb []) (by simp) (fun b hb => .inl hb)
  unfold nv
  unfold wOf at hr
  by_cases h11 : op = 11
  · subst h11
    simp only [if_true] at hr
    clear hv hC' hC h hin X1 hW
    by_cases hnu : nu = []
    · subst hnu
      simp only [if_true] at hr
      subst hr
      replace hb := hide hb
      go_enter Tryz.func83, Tryz.ntmps83
      go_wp2
      go_ret
      exact ⟨rfl, hb.out⟩
    · rw [if_neg hnu] at hr
      subst hr
      have hpos : 0 < nu.length := List.length_pos_iff.2 hnu
      clear hnu
      generalize nu.length = n at *
      have h0 : ((n : Int) == 0) = false := beq_eq_false_iff_ne.2 (by omega)
      replace hb := hide hb
      go_enter Tryz.func83, Tryz.ntmps83
      go_wp2
      go_ret
      exact ⟨rfl, hb.out⟩
  · rw [if_neg h11] at hr
    have g11 : (op == 11) = false := beq_eq_false_iff_ne.2 h11
    have main : ∀ (_ : 0 < ar.length) (_ : (op = 14 ∧ ar.length = 1) ∨ op = 16), r = woAt ns (ar.getD 0 0) := fun _ h => by rw [hr, if_pos h]
    by_cases h14 : op = 14 ∧ ar.length = 1
    · rw [if_pos (.inl h14)] at hr
      obtain ⟨rfl, hl1⟩ := h14
      rcases hC' with he | ⟨b', o, rfl, _, _, hc⟩
      · rw [he] at hl1; simp at hl1
      replace hc := hc 0 (by omega)
      rw [Nat.add_zero] at hc
      obtain ⟨x0, x1⟩ := hin _ (getD_mem (k := 0) (by omega))
      obtain ⟨g, i, rfl, hxi, hlti, _, y7⟩ := hv.get x0 x1
      have hsl := hv.sl
      have hle := hv.le
      rw [← hr] at y7
      rw [hxi] at hc
      rw [hl1] at hb hsl y7 hc ⊢
      replace hb := hide hb
      clear hv hin hxi x0 x1 h hC main hr X1 hW
      go_enter Tryz.func83, Tryz.ntmps83
      go_wp2
      go_region
      go_wp2
      go_ret
      exact ⟨rfl, hb.out.drew⟩
    · by_cases h16' : op = 16
      · rw [if_pos (.inr h16')] at hr
        subst h16'
        have hpos := h16 rfl
        rcases hC' with he | ⟨b', o, rfl, _, _, hc⟩
        · rw [he] at hpos; simp at hpos
        replace hc := hc 0 (by omega)
        rw [Nat.add_zero] at hc
        obtain ⟨x0, x1⟩ := hin _ (getD_mem (k := 0) (by omega))
        obtain ⟨g, i, rfl, hxi, hlti, _, y7⟩ := hv.get x0 x1
        have hsl := hv.sl
        have hle := hv.le
        rw [← hr] at y7
        rw [hxi] at hc
        replace hb := hide hb
        clear hv hin hxi x0 x1 h hC main hr X1 hW h14
        generalize ar.length = n at *
        go_enter Tryz.func83, Tryz.ntmps83
        go_wp2
        go_region
        go_wp2
        go_ret
        exact ⟨rfl, hb.out.drew⟩
      · rw [if_neg (by rintro (h | h); exact h14 h; exact h16' h)] at hr
        subst hr
        have g16 : (op == 16) = false := beq_eq_false_iff_ne.2 h16'
        clear hv hC' hC h hin X1 hW main
        by_cases h14' : op = 14
        · subst h14'
          have hl1 : ar.length ≠ 1 := fun h => h14 ⟨rfl, h⟩
          generalize ar.length = n at *
          have h0 : ((n : Int) == 1) = false := beq_eq_false_iff_ne.2 (by omega)
          replace hb := hide hb
          go_enter Tryz.func83, Tryz.ntmps83
          go_wp2
          go_ret
          exact ⟨rfl, hb.out⟩
        · have g14 : (op == 14) = false := beq_eq_false_iff_ne.2 h14'
          replace hb := hide hb
          go_enter Tryz.func83, Tryz.ntmps83
          go_wp2
          go_ret
          exact ⟨rfl, hb.out⟩
structure Pm (X : List Nat) (w : World) (T0 : List Nat) (q p : Nat) (T : List Nat) (N : Nat) (ns : List Nd) (v : Value) (m1 m2 : Option Nat) (g0 g1 : Nat) (c0 c1 : Array Value) (W : World) : Prop where
  tt : TtP (g0 :: g1 :: X) W q p T N ns v m1 m2
  b0 : Bk g0 c0 115 W
  b1 : Bk g1 c1 149 W
  ne : g0 ≠ g1
  l0 : w.heap.size ≤ g0
  l1 : w.heap.size ≤ g1
  of : Off T0 w W
  tn : ∀ b ∈ T, b ∈ T0 ∨ w.heap.size ≤ b
section
variable {X : List Nat} {w : World} {T0 : List Nat} {q p : Nat} {T : List Nat} {N : Nat} {ns : List Nd} {v : Value} {m1 m2 : Option Nat} {g0 g1 : Nat} {c0 c1 : Array Value} {W W' : World}
theorem Pm.next (h : Pm X w T0 q p T N ns v m1 m2 g0 g1 c0 c1 W) (hb : Below W.heap.size W W') : Pm X w T0 q p T N ns v m1 m2 g0 g1 c0 c1 W' :=
  ⟨h.tt.next hb, h.b0.next hb, h.b1.next hb, h.ne, h.l0, h.l1, h.of.trans (Off.of_below hb T0) (fun b hb => .inl hb), h.tn⟩
theorem Pm.drew (h : Pm X w T0 q p T N ns v m1 m2 g0 g1 c0 c1 W) : Pm X w T0 q p T N ns v m1 m2 g0 g1 c0 c1 W.drew := h.next (((Off.refl [] W).drew).below (Nat.le_refl _) (by simp))
theorem Pm.s0 (h : Pm X w T0 q p T N ns v m1 m2 g0 g1 c0 c1 W) {j : Nat} {u : Value} {c0' : Array Value} (e : c0' = c0.setIfInBounds j u) : Pm X w T0 q p T N ns v m1 m2 g0 g1 c0' c1 (W.setCell ⟨g0, j, none⟩ u) := by
  have hO : Off [g0] W (W.setCell ⟨g0, j, none⟩ u) := (Off.refl _ _).setCell _ _ (.inl (by simp))
  exact ⟨h.tt.off hO (by simp), h.b0.set u e, h.b1.set_far _ _ (Ne.symm h.ne), h.ne, h.l0, h.l1, h.of.trans (T' := [g0]) hO (by intro b hb; simp at hb; subst hb; exact .inr h.l0), h.tn⟩
theorem Pm.s7 {u0 u1 u2 u3 u4 u5 u6 : Value} (h : Pm X w T0 q p T N ns v m1 m2 g0 g1 #[u0, u1, u2, u3, u4, u5, u6] c1 W) (v0 v1 v2 v3 v4 v5 v6 : Value) : Pm X w T0 q p T N ns v m1 m2 g0 g1 #[v0, v1, v2, v3, v4, v5, v6] c1 (((((((W.setCell ⟨g0, 0, none⟩ v0).setCell ⟨g0, 1, none⟩ v1).setCell ⟨g0, 2, none⟩ v2).setCell ⟨g0, 3, none⟩ v3).setCell ⟨g0, 4, none⟩ v4).setCell ⟨g0, 5, none⟩ v5).setCell ⟨g0, 6, none⟩ v6) := by
  have a0 : Pm X w T0 q p T N ns v m1 m2 g0 g1 #[v0, u1, u2, u3, u4, u5, u6] c1 _ := h.s0 (j := 0) (u := v0) rfl
  have a1 : Pm X w T0 q p T N ns v m1 m2 g0 g1 #[v0, v1, u2, u3, u4, u5, u6] c1 _ := a0.s0 (j := 1) (u := v1) rfl
  have a2 : Pm X w T0 q p T N ns v m1 m2 g0 g1 #[v0, v1, v2, u3, u4, u5, u6] c1 _ := a1.s0 (j := 2) (u := v2) rfl
  have a3 : Pm X w T0 q p T N ns v m1 m2 g0 g1 #[v0, v1, v2, v3, u4, u5, u6] c1 _ := a2.s0 (j := 3) (u := v3) rfl
  have a4 : Pm X w T0 q p T N ns v m1 m2 g0 g1 #[v0, v1, v2, v3, v4, u5, u6] c1 _ := a3.s0 (j := 4) (u := v4) rfl
  have a5 : Pm X w T0 q p T N ns v m1 m2 g0 g1 #[v0, v1, v2, v3, v4, v5, u6] c1 _ := a4.s0 (j := 5) (u := v5) rfl
  exact a5.s0 (j := 6) (u := v6) rfl
end
def tcs (n : Nd) (A : Option Addr) (c : Nat) (B : Option Addr) (d : Nat) (C : Option Addr) (e : Nat) : List Value :=
  [.int .i64 n.op, .string n.nm, .bool n.ng, .slice A n.nu.length c, .slice B n.de.length d, .slice C n.ar.length e, .int .i64 n.so, .int .i64 n.wo]
theorem app_term (w w1 : World) (v : Value) (k : Nat) (xs : List Value) (hrow : w.ownsRow 0 145 8 v k xs) (n : Nd) (A B C : Option Addr) (c d e : Nat) (hl : k ≤ 1000000) (hw : w1 = w.alloc (.cells (tcs n A c B d C e).toArray 145)) :
    ∃ v' w', (∀ ty, (Builtin.append_ #[137, 137] ty #[v, .slice (some ⟨w.heap.size, 0, none⟩) 1 1]).run Tryz.prog w1 = .ok v' w') ∧
      w'.ownsRow 0 145 8 v' (k + 1) (xs ++ tcs n A c B d C e) ∧ Off v.ownBlock.toList w w' ∧ (∀ b, v'.ownBlock = some b → v.ownBlock = some b ∨ w.heap.size ≤ b) := by
  subst hw
  obtain ⟨i, hinf, hz, h1, h8⟩ := info_parts (P := Tryz.prog) (e := 145) (z := .agg #[.int .i64 0, .string ⟨#[]⟩, .bool false, .slice none 0 0, .slice none 0 0, .slice none 0 0, .int .i64 0, .int .i64 0]) (size := 8) (bytes := 120) (by kernel_rfl)
  have hB : Bk w.heap.size (tcs n A c B d C e).toArray 145 (w.alloc (.cells (tcs n A c B d C e).toArray 145)) := Bk.new _ _ _
  have hcells : ∀ j u, (tcs n A c B d C e)[j]? = some u → (w.alloc (.cells (tcs n A c B d C e).toArray 145)).cell? ((⟨w.heap.size, 0, none⟩ : Addr).add j) = some u := by
    intro j u hu
    rw [Addr.add_lit, Nat.zero_add]
    refine hB.cell ?_
    rw [← Array.getElem?_toList]
    exact hu
  obtain ⟨v', w', hr, h2, h3, h4, h5⟩ := run_append_own_at (P := Tryz.prog) (w.alloc (.cells (tcs n A c B d C e).toArray 145)) 0 137 0 145 i _ 8 120 Tryz.underlying137 hinf hz h1 h8 rfl (by decide) v k xs (hrow.alloc _) ⟨w.heap.size, 0, none⟩ 1 1 (tcs n A c B d C e) rfl hcells
    (by intro u hu; simp [tcs] at hu; rcases hu with rfl | rfl | rfl | rfl | rfl | rfl | rfl | rfl <;> rfl) (by unfold maxLen; omega) (by omega) (Nat.zero_le _)
  refine ⟨v', w', fun ty => hr, h2, ?_, ?_⟩
  · exact ((Off.refl _ _).alloc _).trans (Off.of_grown (T := v.ownBlock.toList) h3 (fun k hk => .inl (by simp [hk]))) (fun b hb => .inl hb)
  · intro b hb
    rcases h5 with h5 | h5
    · exact .inl (h5 ▸ hb)
    · rw [h5] at hb
      have : (w.alloc (.cells (tcs n A c B d C e).toArray 145)).heap.size = w.heap.size + 1 := by simp
      injection hb with hb
      exact .inr (by omega)
theorem Km.wf {n : Nat} (h : n ≤ 1000000) : (Lit.int .i64 (n : Int)).wf = true := WalkArith.wf_i64 (by omega)
theorem put_fin {X : List Nat} {w : World} {T0 : List Nat} {q p : Nat} {T : List Nat} {N : Nat} {ns : List Nd} {A3 : Option Addr} {k3 : Nat} {b1 b2 g0 g1 : Nat} {c0 : Array Value} {n : Nd} {W : World} (hX : ∀ b ∈ X, b < w.heap.size)
    (h : Pm X w T0 q p T N ns (.slice A3 ns.length k3) (some b1) (some b2) g0 g1 c0 (kcs n) W) {A B C : Option Addr} {c d e : Nat} (R1 : Rw (T ++ (g0 :: g1 :: X)) W A (us n.nu)) (R2 : Rw (T ++ (g0 :: g1 :: X)) W B (us n.de)) (R3 : Rw (T ++ (g0 :: g1 :: X)) W C (zs n.ar))
    (hf : Fit1 n) (hargs : ∀ a ∈ n.ar, 0 ≤ a ∧ a < (ns.length : Int)) (hnew : ∀ m ∈ ns, kvl m ≠ kvl n) (hN : N ≤ 100000) (hlen : ns.length ≤ 100000) :
    ∃ A' c' W2, (∀ ty, (Builtin.append_ #[137, 137] ty #[.slice A3 ns.length k3, .slice (some ⟨W.heap.size, 0, none⟩) 1 1]).run Tryz.prog (W.alloc (.cells (tcs n A c B d C e).toArray 145)) = .ok (.slice A' (ns.length + 1) c') W2) ∧
      W2.cell? ⟨q, 1, none⟩ = some (.slice A3 ns.length k3) ∧ W2.frozen? ⟨q, 1, none⟩ = false ∧ Bk g0 c0 115 W2 ∧
      ∀ U, U = W2.setCell ⟨q, 1, none⟩ (.slice A' (ns.length + 1) c') → U.cell? ⟨q, 2, none⟩ = some (.map (some b1)) ∧ Bk g1 (kcs n) 149 U ∧
        ∃ W3, (Instr.mapUpdate 138 (.map (some b1)) (kvl n) (.int .i64 (ns.length : Int))).run Tryz.prog U.drew = .ok () W3 ∧ W3.cell? ⟨q, 3, none⟩ = some (.map (some b2)) ∧ Bk g0 c0 115 W3 ∧
          (n.op ≠ 12 → ∃ T', TtP X W3 q p T' (N + 1) (ns ++ [n]) (.slice A' (ns.length + 1) c') (some b1) (some b2) ∧ Off T0 w W3 ∧ ∀ b ∈ T', b ∈ T0 ∨ w.heap.size ≤ b) ∧
          (n.op = 12 → ∃ W4, (Instr.mapUpdate 139 (.map (some b2)) (.string n.nm) (.agg #[])).run Tryz.prog W3.drew = .ok () W4 ∧
            ∃ T', TtP X W4 q p T' (N + 1) (ns ++ [n]) (.slice A' (ns.length + 1) c') (some b1) (some b2) ∧ Off T0 w W4 ∧ ∀ b ∈ T', b ∈ T0 ∨ w.heap.size ≤ b) := by
  obtain ⟨xs, hrow, hNs⟩ := h.tt.row
  obtain ⟨v', W2, e1, e2, e3, e4⟩ := app_term W _ _ _ xs hrow n A B C c d e (by omega) rfl
  have hform : ∃ A' c', v' = .slice A' (ns.length + 1) c' := by
    rcases e2.2 with ⟨_, h⟩ | ⟨g, cap, cu, e, _⟩
    · omega
    · exact ⟨_, _, e⟩
  obtain ⟨A', c', rfl⟩ := hform
  have hT := h.tt.eT
  have ho := h.tt.once
  have hlt := h.tt.lt
  obtain ⟨x0, x1⟩ : g0 ∉ T ∧ g1 ∉ T := ⟨(h.tt.xs g0 (by simp)).2, (h.tt.xs g1 (by simp)).2⟩
  obtain ⟨p1, p2, p3, p4⟩ := h.tt.parts
  rw [hT] at ho
  simp only [List.nodup_cons, List.nodup_append, List.mem_append, Option.toList_some, List.mem_singleton, not_or, Option.mem_toList] at ho
  obtain ⟨⟨o1, o2, o3⟩, o4, ⟨_, _, o5⟩, o6⟩ := ho
  have oq : ∀ b ∈ (Value.slice A3 ns.length k3).ownBlock.toList, b ≠ q := by
    rintro b hb rfl
    rw [Option.mem_toList] at hb
    exact o1 hb
  have vb1 : b1 ∉ (Value.slice A3 ns.length k3).ownBlock.toList := fun hm => by
    rw [Option.mem_toList] at hm
    exact o6 b1 hm b1 (.inl rfl) rfl
  have vb2 : b2 ∉ (Value.slice A3 ns.length k3).ownBlock.toList := fun hm => by
    rw [Option.mem_toList] at hm
    exact o6 b2 hm b2 (.inr rfl) rfl
  have b12 : b1 ≠ b2 := fun e => by
    subst e
    have hmp := h.tt.mp
    rcases hmp with ⟨e, _⟩ | ⟨a1, D1, a2, D2, e1, e2, q1, _, q2, _⟩
    · cases e
    · have := h.tt.once
      rw [hT] at this
      simp [List.nodup_append] at this
  have vT : ∀ b ∈ (Value.slice A3 ns.length k3).ownBlock.toList, b ∈ T := fun b hb => p2 b (by rwa [Option.mem_toList] at hb)
  have hq2 : Bk q _ 141 W2 := h.tt.bk.off e3 (fun hm => oq q hm rfl)
  have hg0 : Bk g0 c0 115 W2 := h.b0.off e3 (fun hm => x0 (vT g0 hm))
  have hg1 : Bk g1 (kcs n) 149 W2 := h.b1.off e3 (fun hm => x1 (vT g1 hm))
  refine ⟨A', c', W2, e1, hq2.cell rfl, hq2.free 1, hg0, ?_⟩
  rintro U rfl
  have oU : Off (q :: (Value.slice A3 ns.length k3).ownBlock.toList) W (W2.setCell ⟨q, 1, none⟩ (.slice A' (ns.length + 1) c')) := (e3.more (fun b hb => List.mem_cons_of_mem _ hb)).setCell _ _ (.inl (by simp))
  have uq : Bk q #[.pointer (some ⟨p, 0, none⟩), .slice A' (ns.length + 1) c', .map (some b1), .map (some b2)] 141 (W2.setCell ⟨q, 1, none⟩ (.slice A' (ns.length + 1) c')) := hq2.set _ rfl
  have q0 : q ≠ g0 := fun e => x0 (e ▸ p1)
  have q1 : q ≠ g1 := fun e => x1 (e ▸ p1)
  have ug0 := hg0.set_far ⟨q, 1, none⟩ (.slice A' (ns.length + 1) c') (Ne.symm q0)
  have ug1 := hg1.set_far ⟨q, 1, none⟩ (.slice A' (ns.length + 1) c') (Ne.symm q1)
  have urow : (W2.setCell ⟨q, 1, none⟩ (.slice A' (ns.length + 1) c')).ownsRow 0 145 8 (.slice A' (ns.length + 1) c') (ns.length + 1) (xs ++ tcs n A c B d C e) := by
    refine Off.row e2 (T := [q]) ((Off.refl _ _).setCell _ _ (.inl (by simp))) (fun k hk hm => ?_)
    simp at hm
    subst hm
    rcases e4 k hk with e | e
    · exact oq k (by rw [Option.mem_toList]; exact e) rfl
    · exact Nat.not_lt.2 e (hlt k p1)
  rcases h.tt.mp with ⟨e, _⟩ | ⟨a1, D1, a2, D2, ea1, ea2, w1, k1, w2, k2⟩
  · cases e
  cases ea1
  cases ea2
  have bq1 : b1 ∉ (q :: (Value.slice A3 ns.length k3).ownBlock.toList) := fun hm => by
    rcases List.mem_cons.1 hm with rfl | hm
    · exact o2 rfl
    · exact vb1 hm
  have bq2 : b2 ∉ (q :: (Value.slice A3 ns.length k3).ownBlock.toList) := fun hm => by
    rcases List.mem_cons.1 hm with rfl | hm
    · exact o3 rfl
    · exact vb2 hm
  have u1 := (own_off w1 oU bq1).drew
  have u2 := (own_off w2 oU bq2).drew
  obtain ⟨l, hl⟩ := hf.key
  obtain ⟨W3, r1, y1, y2⟩ := u1.update lawK Tryz.underlying138 (by unfold maxLen; omega) hl (plainElem_int Tryz.underlying3 (Km.wf (n := ns.length) (by omega)))
  have K1 := k1.push u1.isMap n hf hl hnew
  have O3 : Off [b1] (W2.setCell ⟨q, 1, none⟩ (.slice A' (ns.length + 1) c')).drew W3 := Off.of_grown y2 (fun k hk => by cases hk; exact .inl (by simp))
  have oq1 : b1 ≠ q := fun e => o2 e.symm
  have oq2 : b2 ≠ q := fun e => o3 e.symm
  have t3q : Bk q #[.pointer (some ⟨p, 0, none⟩), .slice A' (ns.length + 1) c', .map (some b1), .map (some b2)] 141 W3 := (uq.off ((Off.refl [] _).drew) (by simp)).off O3 (by simp; exact fun e => oq1 e.symm)
  have b1T : b1 ∈ T := p3 b1 rfl
  have b2T : b2 ∈ T := p4 b2 rfl
  have t3g0 : Bk g0 c0 115 W3 := (ug0.off ((Off.refl [] _).drew) (by simp)).off O3 (by simp; rintro rfl; exact x0 b1T)
  have m2' := own_off u2 O3 (by simp; exact fun e => b12 e.symm)
  have OA : Off T0 w W3 := by
    refine (h.of.trans (T' := q :: b1 :: (Value.slice A3 ns.length k3).ownBlock.toList) ((oU.drew.more (T' := q :: b1 :: (Value.slice A3 ns.length k3).ownBlock.toList) (fun b hb => ?_)).trans (T' := [b1]) O3 (fun b hb => ?_)) (fun b hb => ?_))
    · rcases List.mem_cons.1 hb with rfl | hb
      · simp
      · exact List.mem_cons_of_mem _ (List.mem_cons_of_mem _ hb)
    · simp at hb; subst hb; exact .inl (by simp)
    · rcases List.mem_cons.1 hb with rfl | hb
      · exact h.tn _ p1
      rcases List.mem_cons.1 hb with rfl | hb
      · exact h.tn _ b1T
      · exact h.tn _ (vT b hb)
  have hszU : W.heap.size ≤ W3.heap.size := Nat.le_trans oU.size O3.size
  have mk : ∀ W4, Off [b2] W3 W4 → Mps W4 (some b1) (some b2) (N + 1) (ns ++ [n]) →
      ∃ T', TtP X W4 q p T' (N + 1) (ns ++ [n]) (.slice A' (ns.length + 1) c') (some b1) (some b2) ∧ Off T0 w W4 ∧ ∀ b ∈ T', b ∈ T0 ∨ w.heap.size ≤ b := by
    intro W4 O4 hmk
    have hsub : ∀ b ∈ (Value.slice A' (ns.length + 1) c').ownBlock.toList, b ∈ (Value.slice A3 ns.length k3).ownBlock.toList ∨ W.heap.size ≤ b := fun b hb => by
      rw [Option.mem_toList] at hb ⊢
      exact e4 b hb
    have hsubT : ∀ b ∈ q :: ((Value.slice A' (ns.length + 1) c').ownBlock.toList ++ ((some b1).toList ++ (some b2).toList)), b ∈ T ∨ W.heap.size ≤ b := by
      intro b hb
      rcases List.mem_cons.1 hb with rfl | hb
      · exact .inl p1
      rcases List.mem_append.1 hb with hb | hb
      · exact (hsub b hb).imp (vT b) id
      rcases List.mem_append.1 hb with hb | hb
      · simp at hb; subst hb; exact .inl b1T
      · simp at hb; subst hb; exact .inl b2T
    have OW : Off (q :: b1 :: b2 :: (Value.slice A3 ns.length k3).ownBlock.toList) W W4 := by
      refine ((oU.drew.more (T' := q :: b1 :: b2 :: (Value.slice A3 ns.length k3).ownBlock.toList) (fun b hb => ?_)).trans (T' := [b1]) O3 (fun b hb => ?_)).trans (T' := [b2]) O4 (fun b hb => ?_)
      · rcases List.mem_cons.1 hb with rfl | hb
        · simp
        · exact List.mem_cons_of_mem _ (List.mem_cons_of_mem _ (List.mem_cons_of_mem _ hb))
      · simp at hb; subst hb; exact .inl (by simp)
      · simp at hb; subst hb; exact .inl (by simp)
    have hOT : ∀ b ∈ (q :: b1 :: b2 :: (Value.slice A3 ns.length k3).ownBlock.toList), b ∈ T := by
      intro b hb
      rcases List.mem_cons.1 hb with rfl | hb
      · exact p1
      rcases List.mem_cons.1 hb with rfl | hb
      · exact b1T
      rcases List.mem_cons.1 hb with rfl | hb
      · exact b2T
      · exact vT b hb
    have hOTX : ∀ b ∈ (q :: b1 :: b2 :: (Value.slice A3 ns.length k3).ownBlock.toList), b ∈ T ++ (g0 :: g1 :: X) ∨ W.heap.size ≤ b := fun b hb => .inl (List.mem_append_left _ (hOT b hb))
    have hTX : ∀ b ∈ (q :: ((Value.slice A' (ns.length + 1) c').ownBlock.toList ++ ((some b1).toList ++ (some b2).toList))) ++ X, b ∈ T ++ (g0 :: g1 :: X) ∨ W.heap.size ≤ b := by
      intro b hb
      rcases List.mem_append.1 hb with hb | hb
      · exact (hsubT b hb).imp (List.mem_append_left _) id
      · exact .inl (List.mem_append_right _ (List.mem_cons_of_mem _ (List.mem_cons_of_mem _ hb)))
    have rowO : Off [b1, b2] (W2.setCell ⟨q, 1, none⟩ (.slice A' (ns.length + 1) c')) W4 := by
      refine (((Off.refl [b1, b2] _).drew).trans (T' := [b1]) O3 (fun b hb => ?_)).trans (T' := [b2]) O4 (fun b hb => ?_)
      · simp at hb; subst hb; exact .inl (by simp)
      · simp at hb; subst hb; exact .inl (by simp)
    refine ⟨_, ⟨t3q.off O4 (by simp; exact fun e => oq2 e.symm), ⟨xs ++ tcs n A c B d C e, ?_, ?_⟩, hmk, rfl, ?_, fun b hb => ⟨?_, fun hm => ?_⟩, fun m hm => ?_, fun i hi a ha => ?_, ?_⟩, ?_, ?_⟩
    · rw [List.length_append]
      refine Off.row urow rowO (fun k hk hm => ?_)
      simp at hm
      rcases e4 k hk with e | e
      · rcases hm with rfl | rfl
        · exact vb1 (by rw [Option.mem_toList]; exact e)
        · exact vb2 (by rw [Option.mem_toList]; exact e)
      · rcases hm with rfl | rfl
        · exact Nat.not_lt.2 e (hlt _ b1T)
        · exact Nat.not_lt.2 e (hlt _ b2T)
    · exact Ns.snoc (R1.off OW hOTX hTX) (R2.off OW hOTX hTX) (R3.off OW hOTX hTX) (hNs.off OW hOTX hTX)
    · simp only [List.nodup_cons, List.nodup_append, List.mem_append, Option.toList_some, List.mem_singleton, not_or]
      have vq : ∀ b ∈ (Value.slice A' (ns.length + 1) c').ownBlock.toList, b ≠ q ∧ b ≠ b1 ∧ b ≠ b2 := by
        intro b hb
        rcases hsub b hb with e | e
        · exact ⟨oq b e, fun e2 => vb1 (e2 ▸ e), fun e2 => vb2 (e2 ▸ e)⟩
        · exact ⟨fun e2 => Nat.not_lt.2 e (e2 ▸ hlt _ p1), fun e2 => Nat.not_lt.2 e (e2 ▸ hlt _ b1T), fun e2 => Nat.not_lt.2 e (e2 ▸ hlt _ b2T)⟩
      refine ⟨⟨fun hm => (vq q hm).1 rfl, fun e => oq1 e.symm, fun e => oq2 e.symm⟩, by cases (Value.slice A' (ns.length + 1) c').ownBlock <;> simp, ⟨by simp, by simp, fun a ha b hb e => ?_⟩, fun a ha b hb e => ?_⟩
      · subst ha hb; exact b12 e
      · subst e
        rcases hb with rfl | rfl
        · exact (vq _ ha).2.1 rfl
        · exact (vq _ ha).2.2 rfl
    · exact Nat.lt_of_lt_of_le (hX b hb) (Nat.le_trans h.of.size (Nat.le_trans hszU O4.size))
    · rcases hsubT b hm with e | e
      · exact (h.tt.xs b (List.mem_cons_of_mem _ (List.mem_cons_of_mem _ hb))).2 e
      · exact Nat.not_lt.2 e (Nat.lt_of_lt_of_le (hX b hb) h.of.size)
    · rcases List.mem_append.1 hm with hm | hm
      · exact h.tt.fit m hm
      · simp at hm; subst hm; exact hf
    · rcases Nat.lt_or_ge i ns.length with h' | h'
      · rw [List.getElem_append_left h'] at ha
        exact h.tt.args i h' a ha
      · have hi' : i = ns.length := by simp at hi; omega
        subst hi'
        simp only [List.getElem_concat_length] at ha
        exact hargs a ha
    · have := h.tt.le; simp; omega
    · exact OA.trans (T' := [b2]) O4 (fun b hb => by simp at hb; subst hb; exact h.tn _ b2T)
    · intro b hb
      rcases hsubT b hb with e | e
      · exact h.tn b e
      · exact .inr (Nat.le_trans h.of.size e)
  refine ⟨uq.cell rfl, ug1, W3, r1, t3q.cell rfl, t3g0, fun h12 => ?_, fun h12 => ?_⟩
  · exact mk W3 (.refl _ _) (.inr ⟨b1, _, b2, _, rfl, rfl, y1, K1, m2'.mono (Nat.le_succ _), k2.skip n h12⟩)
  · have m2d := m2'.drew
    have hkey : keyOf Tryz.prog 9 (.string n.nm) = some (kl n.nm) := keyOf_string_mk Tryz.underlying9 (by have := hf.nm; unfold maxLen; omega)
    obtain ⟨W4, r2, z1, z2⟩ := m2d.update lawS Tryz.underlying139 (by unfold maxLen; omega) hkey unitElem_mk
    have O4 : Off [b2] W3 W4 := ((Off.refl [b2] _).drew).trans (T' := [b2]) (Off.of_grown z2 (fun k hk => by cases hk; exact .inl (by simp))) (fun b hb => .inl hb)
    refine ⟨W4, r2, mk W4 O4 (.inr ⟨b1, _, b2, _, rfl, rfl, own_off y1 O4 (by simp; exact b12), K1, z1, k2.push m2d.isMap n h12⟩)⟩
end
end Nt
end Go.Proofs.YthabfakbdfaciaaGreat
