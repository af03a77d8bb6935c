import Derived.Test.YtlijdgamobpndaaDoorJ17
import Derived.Test.YtlijdgamobpndaaDoorJ10
import Derived.DeepKeys4
import Derived.Maps.OwnSet
import Derived.Maps.OwnOps
/-
  An arena in memory: a block of three cells, its nodes' row, its map from keys to numbers.
  Conditions: none.
-/
namespace Go.Proofs.YtlijdgamobpndaaDoor
open Go.RowKit Go.Maps
open Lvl
open Trm
namespace Arn
theorem infoNd : (Tryd.prog.info? 58).map (fun i => (i.zero, i.size, i.bytes)) = some (some (.agg #[.int .i64 0, .int .i64 0, .string ⟨#[]⟩, .string ⟨#[]⟩, .int .i64 0, .int .i64 0, .int .i64 0, .int .i64 0]), 8, 80) := by kernel_rfl
theorem infoKy : (Tryd.prog.info? 56).map (fun i => (i.zero, i.size, i.bytes)) = some (some (.agg #[.int .i64 0, .int .i64 0, .string ⟨#[]⟩, .string ⟨#[]⟩, .int .i64 0, .int .i64 0, .int .i64 0]), 7, 72) := by kernel_rfl
/-- A key's cells, a node's cells. -/
abbrev kc (x : Ky) : Array Value := #[.int .i64 x.kd, .int .i64 x.n, .string x.nm, .string x.lv, .int .i64 x.a0, .int .i64 x.a1, .int .i64 x.a2]
abbrev nc (d : Nd) : Array Value := #[.int .i64 d.key.kd, .int .i64 d.key.n, .string d.key.nm, .string d.key.lv, .int .i64 d.key.a0, .int .i64 d.key.a1, .int .i64 d.key.a2, .int .i64 d.lo]
theorem laidAr : laidOutB Tryd.prog = true := by kernel_rfl
theorem keyLawK : Keyed Tryd.prog 56 := Keyed.of_law (deep_law_laid (m := 5) laidAr (by decide) (of_decide_eq_true (by kernel_rfl)) (by kernel_rfl) (by kernel_rfl))
/-- Has each part of a key room? -/
def OkK (x : Ky) : Prop := (-9223372036854775808 ≤ x.kd ∧ x.kd < 9223372036854775808) ∧ (-9223372036854775808 ≤ x.n ∧ x.n < 9223372036854775808) ∧ x.nm.size ≤ 140737488355328 ∧ x.lv.size ≤ 140737488355328 ∧ x.a0 ≤ 1048576 ∧ x.a1 ≤ 1048576 ∧ x.a2 ≤ 1048576
theorem keyLits_int (d : Nat) {z : Int} (h : -9223372036854775808 ≤ z ∧ z < 9223372036854775808) : Tryd.prog.keyLits (d + 1) 3 [.int .i64 z] = some [.int .i64 z] := by
  unfold Program.keyLits
  simp only [Tryd.underlying3]
  rw [if_pos ⟨trivial, WalkArith.wf_i64 (by omega)⟩]
theorem keyLits_str (d : Nat) {s : ByteArray} (h : s.size ≤ 140737488355328) : Tryd.prog.keyLits (d + 1) 9 [.string s] = some [.string s.data.toList] := by
  unfold Program.keyLits
  simp only [Tryd.underlying9]
  rw [if_pos (by unfold maxLen; omega)]
theorem keyLits_arr (d : Nat) {a b c : Int} (ha : -9223372036854775808 ≤ a ∧ a < 9223372036854775808) (hb : -9223372036854775808 ≤ b ∧ b < 9223372036854775808) (hc : -9223372036854775808 ≤ c ∧ c < 9223372036854775808) : Tryd.prog.keyLits (d + 2) 54 [.int .i64 a, .int .i64 b, .int .i64 c] = some [.int .i64 a, .int .i64 b, .int .i64 c] := by
  unfold Program.keyLits
  simp only [Tryd.underlying54]
  rw [show Tryd.prog.cellsOf 54 = 3 by kernel_rfl, if_pos (by simp), show Tryd.prog.cellsOf 3 = 1 by kernel_rfl]
  simp only [List.range_succ, List.range_zero, List.nil_append, List.cons_append, List.mapM_cons, List.mapM_nil, List.drop_zero, List.drop_succ_cons, List.take_succ_cons, List.take_zero, Nat.zero_mul, Nat.one_mul, keyLits_int d ha, keyLits_int d hb, keyLits_int d hc]
  rfl
set_option maxRecDepth 100000 in
theorem keyOf_ky {x : Ky} (h : OkK x) : ∃ l, Go.keyOf Tryd.prog 56 (.agg (kc x)) = some l := by
  obtain ⟨h1, h2, h3, h4, h5, h6, h7⟩ := h
  unfold Go.keyOf
  rw [Tryd.underlying56]
  have hk : Tryd.prog.keyType 56 = true := by kernel_rfl
  have hc : Tryd.prog.cellsOf 56 = 7 := by kernel_rfl
  have hf : Value.formed Tryd.prog 56 (.agg (kc x)) = true := by simp [Value.formed, Tryd.underlying56, hc]
  simp only [hk, hf, Bool.true_and, if_true]
  obtain ⟨d, hd⟩ : ∃ d, Tryd.prog.types.size + 1 = d + 4 := ⟨Tryd.prog.types.size - 3, by have : 3 ≤ Tryd.prog.types.size := of_decide_eq_true (by kernel_rfl); omega⟩
  rw [hd]
  unfold Program.keyLits
  simp only [Tryd.underlying56, Value.cells]
  rw [if_pos ⟨by rw [hc]; rfl, by simp⟩]
  have c1 : Tryd.prog.cellsOf 3 = 1 := by kernel_rfl
  have c2 : Tryd.prog.cellsOf 9 = 1 := by kernel_rfl
  have c3 : Tryd.prog.cellsOf 54 = 3 := by kernel_rfl
  simp only [List.mapM_cons, List.mapM_nil, c1, c2, c3, List.drop_zero, List.drop_succ_cons, List.take_succ_cons, List.take_zero, keyLits_int _ h1, keyLits_int _ h2, keyLits_str _ h3, keyLits_str _ h4, keyLits_arr _ (a := (x.a0 : Int)) (b := x.a1) (c := x.a2) (by omega) (by omega) (by omega)]
  exact ⟨_, rfl⟩
/-- What a key reads as. -/
noncomputable def kl (x : Ky) : Lit := (Go.keyOf Tryd.prog 56 (.agg (kc x))).getD .nil
theorem kl_is {x : Ky} (h : OkK x) : Go.keyOf Tryd.prog 56 (.agg (kc x)) = some (kl x) := by
  obtain ⟨l, hl⟩ := keyOf_ky h
  unfold kl
  rw [hl]
  rfl
theorem kl_inj {x y : Ky} (hx : OkK x) (hy : OkK y) (h : kl x = kl y) : x = y := by
  have h1 := keyLawK.inj (kl_is hx) (by rw [h]; exact kl_is hy)
  cases x
  cases y
  simp at h1
  obtain ⟨e1, e2, e3, e4, e5, e6, e7⟩ := h1
  simp only [Ky.mk.injEq]
  exact ⟨e1, e2, e3, e4, by omega, by omega, by omega⟩
set_option maxRecDepth 100000 in
theorem kl_key {x : Ky} (h : OkK x) : WideAt.IsKeyLit (kl x) := Keyed.key keyLawK (v := .agg (kc x)) (l := kl x) (kl_is h)
/-- A map as read, that tells the keys' numbers. -/
def MapOk (D : DataW Unit) (ns : List Nd) : Prop := IsMap D ∧ ∀ x, OkK x → D.atKey (kl x) (.lit (.int .i64 0)) = .lit (.int .i64 (num ns x)) ∧ Maps.has D (kl x) = decide (num ns x ≠ 0)
theorem mapOk_nil : MapOk (.map []) [] := ⟨isMap_empty, fun _ _ => ⟨rfl, rfl⟩⟩
set_option maxRecDepth 100000 in
theorem MapOk.snoc {D : DataW Unit} {ns : List Nd} {d : Nd} (h : MapOk D ns) (hx : OkK d.key) (h0 : num ns d.key = 0) : MapOk (D.put (kl d.key) (.lit (.int .i64 ((ns.length : Int) + 1)))) (ns ++ [d]) := by
  obtain ⟨h1, h2⟩ := h
  refine ⟨?_, fun y hy => ?_⟩
  · obtain ⟨es, rfl⟩ := h1
    exact ⟨_, rfl⟩
  · rw [num_snoc]
    by_cases e : d.key = y
    · subst e
      rw [if_neg (fun h => h h0), if_pos rfl, atKey_put_same h1 (kl_key hx), has_put_same h1 (kl_key hx)]
      simp
    · have hne : kl y ≠ kl d.key := fun h => e (kl_inj hy hx h).symm
      rw [atKey_put_other hne, has_put_other hne, (h2 y hy).1, (h2 y hy).2, if_neg e]
      by_cases h9 : num ns y = 0
      · simp [h9]
      · simp [h9]
/-- The cells of a row of nodes. -/
def cells8 (ns : List Nd) : List Value := ns.flatMap fun d => (nc d).toList
theorem cells8_snoc (ns : List Nd) (d : Nd) : cells8 (ns ++ [d]) = cells8 ns ++ (nc d).toList := by
  unfold cells8
  simp
theorem cells8_len : ∀ ns : List Nd, (cells8 ns).length = ns.length * 8
  | [] => rfl
  | d :: ns => by
    have := cells8_len ns
    unfold cells8 at this ⊢
    rw [List.flatMap_cons, List.length_append, this, List.length_cons]
    simp
    omega
theorem cells8_get : ∀ (ns : List Nd) (i : Nat) (h : i < ns.length) (c : Nat) (_ : c < 8), (cells8 ns)[i * 8 + c]? = (nc ns[i])[c]?
  | d :: ns, 0, _, c, hc => by
    unfold cells8
    rw [List.flatMap_cons, List.getElem?_append_left (by simp; omega)]
    simp
  | d :: ns, i + 1, h, c, hc => by
    have := cells8_get ns i (by simpa using h) c hc
    unfold cells8 at this ⊢
    rw [List.flatMap_cons, List.getElem?_append_right (by simp; omega)]
    rw [show (i + 1) * 8 + c - (nc d).toList.length = i * 8 + c by simp; omega]
    exact this
def OkN (d : Nd) : Prop := OkK d.key ∧ 0 ≤ d.lo ∧ d.lo ≤ 1152921504606846976
theorem okN_zero : OkN nd0 := ⟨⟨by decide, by decide, by decide, by decide, by decide, by decide, by decide⟩, by decide, by decide⟩
/-- An arena: its block p, its map's block bm, its nodes' row V, all from base on. -/
structure ArM (w : World) (base p bm most : Nat) (V : Value) (ns : List Nd) : Prop where
  row : w.heap[p]? = some (.cells #[.int .i64 most, V, .map (some bm)] 51 (0, 0))
  own : w.ownsRow base 58 8 V ns.length (cells8 ns)
  map : ∃ D, w.ownsMap Tryd.prog 56 (plainElem Tryd.prog 3) bm ns.length D ∧ MapOk D ns
  pb : base ≤ p
  mb : base ≤ bm
  le : ns.length ≤ most
  room : most ≤ 1048576
  good : ∀ d ∈ ns, OkN d
theorem ArM.plt {w : World} {base p bm most : Nat} {V : Value} {ns : List Nd} (h : ArM w base p bm most V ns) : p < w.heap.size := (Array.getElem?_eq_some_iff.1 h.row).1
theorem ArM.mlt {w : World} {base p bm most : Nat} {V : Value} {ns : List Nd} (h : ArM w base p bm most V ns) : bm < w.heap.size := by
  obtain ⟨D, h1, _⟩ := h.map
  exact h1.lt
theorem ArM.vlt {w : World} {base p bm most : Nat} {V : Value} {ns : List Nd} (h : ArM w base p bm most V ns) : ∀ g, V.ownBlock = some g → base ≤ g ∧ g < w.heap.size := own_lt h.own
theorem ArM.pm {w : World} {base p bm most : Nat} {V : Value} {ns : List Nd} (h : ArM w base p bm most V ns) : p ≠ bm := fun e => by
  obtain ⟨D, ⟨es, clock, h1, _⟩, _⟩ := h.map
  have := h.row
  rw [e, h1] at this
  cases this
theorem ArM.pv {w : World} {base p bm most : Nat} {V : Value} {ns : List Nd} (h : ArM w base p bm most V ns) : V.ownBlock ≠ some p := fun e => by
  rcases h.own.2 with ⟨rfl, _⟩ | ⟨g, cap, cur, rfl, _, hg, _⟩
  · cases e
  · cases e
    have := h.row
    rw [hg] at this
    injection this with this
    injection this with e1 e2
    revert e2
    decide
theorem ArM.mv {w : World} {base p bm most : Nat} {V : Value} {ns : List Nd} (h : ArM w base p bm most V ns) : V.ownBlock ≠ some bm := fun e => by
  obtain ⟨D, ⟨es, clock, h1, _⟩, _⟩ := h.map
  rcases h.own.2 with ⟨rfl, _⟩ | ⟨g, cap, cur, rfl, _, hg, _⟩
  · cases e
  · cases e
    rw [h1] at hg
    cases hg
theorem own_keep {w w' : World} {base : Nat} {T : TypeId} {sz n : Nat} {V : Value} {cs : List Value} (h : w.ownsRow base T sz V n cs) (hk : ∀ g, V.ownBlock = some g → w'.heap[g]? = w.heap[g]?) : w'.ownsRow base T sz V n cs := by
  refine ⟨h.1, ?_⟩
  rcases h.2 with h | ⟨g, cap, cur, rfl, h1, h2, h3⟩
  · exact .inl h
  · exact .inr ⟨g, cap, cur, rfl, h1, (hk g rfl).trans h2, h3⟩
theorem map_keep {w w' : World} {bm n : Nat} {D : DataW Unit} {T E : TypeId} (h : w.ownsMap Tryd.prog T (plainElem Tryd.prog E) bm n D) (hk : w'.heap[bm]? = w.heap[bm]?) : w'.ownsMap Tryd.prog T (plainElem Tryd.prog E) bm n D := by
  obtain ⟨es, clock, h1, h2, h3, h4⟩ := h
  exact ⟨es, clock, hk.trans h1, h2, h3, h4⟩
theorem ArM.below {w w' : World} {base p bm most : Nat} {V : Value} {ns : List Nd} (h : ArM w base p bm most V ns) (hb : Below w.heap.size w w') : ArM w' base p bm most V ns := by
  obtain ⟨D, h1, h2⟩ := h.map
  exact ⟨(hb.block p h.plt).trans h.row, own_keep h.own fun g hg => hb.block g (h.vlt g hg).2, ⟨D, map_keep h1 (hb.block bm h.mlt), h2⟩, h.pb, h.mb, h.le, h.room, h.good⟩
/-- Of what was there only an arena's own blocks have turned. -/
structure Kp (p bm : Nat) (V : Value) (w : World) (V' : Value) (w' : World) : Prop where
  os : w'.os = w.os
  tape : w'.tape = w.tape
  output : w'.output = w.output
  size : w.heap.size ≤ w'.heap.size
  block : ∀ k, k < w.heap.size → k ≠ p → k ≠ bm → V.ownBlock ≠ some k → w'.heap[k]? = w.heap[k]?
  moved : ∀ g, V'.ownBlock = some g → V.ownBlock = some g ∨ w.heap.size ≤ g
theorem Kp.of_below {p bm : Nat} {V : Value} {w w' : World} (h : Below w.heap.size w w') : Kp p bm V w V w' := ⟨h.os, h.tape, h.output, h.size, fun k hk _ _ _ => h.block k hk, fun _ hg => .inl hg⟩
theorem Kp.trans {p bm : Nat} {V V' V'' : Value} {w w' w'' : World} (h : Kp p bm V w V' w') (k : Kp p bm V' w' V'' w'') : Kp p bm V w V'' w'' := by
  refine ⟨k.os.trans h.os, k.tape.trans h.tape, k.output.trans h.output, Nat.le_trans h.size k.size, fun i hi h1 h2 h3 => ?_, fun g hg => ?_⟩
  · refine (k.block i (Nat.lt_of_lt_of_le hi h.size) h1 h2 fun e => ?_).trans (h.block i hi h1 h2 h3)
    rcases h.moved i e with e | e
    · exact h3 e
    · omega
  · rcases k.moved g hg with e | e
    · exact h.moved g e
    · exact .inr (Nat.le_trans h.size e)
theorem Kp.below {p bm base most : Nat} {V V' : Value} {ns : List Nd} {w w' : World} (h : Kp p bm V w V' w') (ha : ArM w base p bm most V ns) {B : Nat} (hB : B ≤ base) : Below B w w' := by
  refine ⟨h.os, h.tape, h.output, h.size, fun k hk => h.block k ?_ ?_ ?_ fun e => ?_⟩
  · have := ha.pb; have := ha.plt; omega
  · have := ha.pb; omega
  · have := ha.mb; omega
  · have := (ha.vlt k e).1; omega
/-- What lies apart from an arena stays. -/
theorem tmP_kp {p bm : Nat} {V V' : Value} {w w' : World} (h : Kp p bm V w V' w') {P : Nat → Prop} (hp : ∀ b, P b → b ≠ p ∧ b ≠ bm ∧ V.ownBlock ≠ some b) {t : Tm} {l s : Value} (ht : TmP w P t l s) : TmP w' P t l s :=
  tmP_move (fun b hlt hb => ⟨hb, h.block b hlt (hp b hb).1 (hp b hb).2.1 (hp b hb).2.2⟩) h.size t l s ht
end Arn
end Go.Proofs.YtlijdgamobpndaaDoor
