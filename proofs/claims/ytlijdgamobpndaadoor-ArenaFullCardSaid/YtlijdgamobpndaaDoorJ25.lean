import Derived.Test.YtlijdgamobpndaaDoorJ24
import Derived.Lib.AppendStr
import Derived.Laws.AppendOwnNone
/-
  Slices of bytes as values, an append of one onto a row of one's own, and the contracts of the statements' helpers CopyBytes and SameBytes.
  Conditions: the bytes lie in memory as told by 'Byt'; together they are at most 2^47.
-/
namespace Go.Proofs.YtlijdgamobpndaaDoor
open Go.RowKit

theorem own_len {w : World} {base : Nat} {v : Value} {n : Nat} {bs : List UInt8} (h : w.ownsRow base 5 1 v n (bs.map bv)) : bs.length = n := by
  have := h.1; simpa using this
theorem own_snoc {w : World} {base : Nat} {v : Value} {n : Nat} {bs : List UInt8} {x : Int} (c : UInt8) (h : w.ownsRow base 5 1 v n (bs.map bv ++ [.int .u8 x])) (hx : x = (c.toNat : Int)) : w.ownsRow base 5 1 v n ((bs ++ [c]).map bv) := by
  subst hx
  rw [List.map_append]
  exact h
theorem Byt.drop' {w : World} {ad : Addr} {bs : List UInt8} (h : Byt w (some ad) bs) (k : Nat) : Byt w (some (ad.add k)) (bs.drop k) := fun hne => by
  obtain ⟨b, o, e, _⟩ := h (fun e => hne (by rw [e]; simp))
  cases e
  rw [txt_add]
  exact h.drop k hne
/-- A slice of bytes in memory, as a value. -/
def BSl (w : World) (S : Value) (r : List UInt8) : Prop := ∃ A n c, S = .slice A n c ∧ r.length = n ∧ n ≤ c ∧ (A = none → c = 0) ∧ Byt w A r
theorem BSl.below {w w' : World} {S : Value} {r : List UInt8} (h : BSl w S r) (hb : Below w.heap.size w w') : BSl w' S r := by
  obtain ⟨A, n, c, e, h1, h2, h3, h4⟩ := h
  exact ⟨A, n, c, e, h1, h2, h3, h4.below hb⟩
theorem bsl_nil (w : World) : BSl w (.slice none 0 0) [] := ⟨none, 0, 0, rfl, rfl, Nat.le_refl _, fun _ => rfl, byt_nil _ _⟩
theorem bsl_own {w : World} {base : Nat} {v : Value} {n : Nat} {bs : List UInt8} (h : w.ownsRow base 5 1 v n (bs.map bv)) : BSl w v bs := by
  obtain ⟨A, c, e, h1, h2, h3, h4⟩ := byt_of_own h
  exact ⟨A, n, c, e, h1, h2, h3, h4⟩
/-- The same, and if it has an address, it is a plain cell's, of a block from 'base' on. -/
def BSo (base : Nat) (w : World) (S : Value) (r : List UInt8) : Prop := ∃ A n c, S = .slice A n c ∧ r.length = n ∧ n ≤ c ∧ (A = none → c = 0) ∧ Byt w A r ∧ ∀ ad, A = some ad → ∃ b o, ad = ⟨b, o, none⟩ ∧ base ≤ b
theorem BSo.bsl {base : Nat} {w : World} {S : Value} {r : List UInt8} (h : BSo base w S r) : BSl w S r := by
  obtain ⟨A, n, c, e, h1, h2, h3, h4, _⟩ := h
  exact ⟨A, n, c, e, h1, h2, h3, h4⟩
theorem BSo.below {base : Nat} {w w' : World} {S : Value} {r : List UInt8} (h : BSo base w S r) (hb : Below w.heap.size w w') : BSo base w' S r := by
  obtain ⟨A, n, c, e, h1, h2, h3, h4, h5⟩ := h
  exact ⟨A, n, c, e, h1, h2, h3, h4.below hb, h5⟩
theorem BSo.mono {base base' : Nat} {w : World} {S : Value} {r : List UInt8} (h : BSo base w S r) (hb : base' ≤ base) : BSo base' w S r := by
  obtain ⟨A, n, c, e, h1, h2, h3, h4, h5⟩ := h
  refine ⟨A, n, c, e, h1, h2, h3, h4, fun ad ha => ?_⟩
  obtain ⟨b, o, e', hb'⟩ := h5 ad ha
  exact ⟨b, o, e', Nat.le_trans hb hb'⟩
theorem bso_nil (base : Nat) (w : World) : BSo base w (.slice none 0 0) [] := ⟨none, 0, 0, rfl, rfl, Nat.le_refl _, fun _ => rfl, byt_nil _ _, fun _ h => by cases h⟩
theorem bso_own {w : World} {base : Nat} {v : Value} {n : Nat} {bs : List UInt8} (h : w.ownsRow base 5 1 v n (bs.map bv)) : BSo base w v bs := by
  obtain ⟨A, c, e, h1, h2, h3, h4⟩ := byt_of_own h
  refine ⟨A, n, c, e, h1, h2, h3, h4, ?_⟩
  rcases h.2 with ⟨e', _⟩ | ⟨g, cap, cur, e', hbg, _⟩
  · rw [e] at e'
    cases e'
    intro ad h
    cases h
  · rw [e] at e'
    cases e'
    intro ad h
    cases h
    exact ⟨g, 0, rfl, hbg⟩
/-- Bytes in a block that an append does not write to. -/
theorem BSo.grown {wr w2 w3 : World} {S v : Value} {r : List UInt8} {base n size : Nat} {e : TypeId} {xs : List Value} {O : Obj} (h : BSo wr.heap.size w2 S r) (ho : wr.ownsRow base e size v n xs) (hg : (w2.alloc O).grownBy w3 v.ownBlock) : BSl w3 S r := by
  obtain ⟨A, m, c, e, h1, h2, h3, h4, h5⟩ := h
  refine ⟨A, m, c, e, h1, h2, h3, fun hne => ?_⟩
  obtain ⟨b, o, rfl, hlt, hc⟩ := h4 hne
  obtain ⟨b', o', e', hbb⟩ := h5 _ rfl
  cases e'
  obtain ⟨_, _, _, hsz, hrow⟩ := hg
  have hlt2 : b < (w2.alloc O).heap.size := by simp; omega
  refine ⟨b, o, rfl, Nat.lt_of_lt_of_le hlt2 hsz, fun j x hx => ?_⟩
  have hb1 : w3.heap[b]? = w2.heap[b]? := by
    rw [hrow b hlt2 (fun hv => by
      rcases ho.2 with ⟨rfl, _⟩ | ⟨g, cap, cur, rfl, hbg, hgr, _⟩
      · cases hv
      · cases hv
        rw [Array.getElem?_eq_none hbb] at hgr
        cases hgr), heap_alloc_old w2 O hlt]
  have := hc j x hx
  unfold World.cell? at this ⊢
  rw [hb1]
  exact this
/-- Bytes are answered in a row of one's own (from a block on), and nothing below it has turned. -/
def OwnRet (base : Nat) (w : World) (ds : List UInt8) (e : Ending) (w' : World) : Prop :=
  ∃ v M, e = .returned v ∧ w'.ownsRow base 5 1 v M (ds.map bv) ∧ Below base w w'
/-- Bytes in a row of one's own, and whether there are any. -/
def OwnTup (w : World) (ds : List UInt8) (b : Bool) (e : Ending) (w' : World) : Prop :=
  ∃ v M, e = .returned (.tuple #[v, .bool b]) ∧ w'.ownsRow w.heap.size 5 1 v M (ds.map bv) ∧ Below w.heap.size w w'

/-- An append of a slice of bytes onto a row of one's own. -/
theorem wpList_append_bytes {w : World} {ops : Array Oper} {rest : List Oper} {o : Oper} {a : Act} {Q : Exit → Act → World → Prop} (hgd : o.guard = none) (s x : Operand)
    (ho : o.op = .call { callee := .builtin .append, args := #[s, x], argTypes := #[70, 70] })
    (base : Nat) (v : Value) (n : Nat) (bs : List UInt8) (hs : a.eval s = v) (hown : w.ownsRow base 5 1 v n (bs.map bv))
    (S : Value) (ds : List UInt8) (hx : a.eval x = S) (hS : BSl w S ds) (hb : n + ds.length ≤ 140737488355328) (hbase : base ≤ w.heap.size)
    (h : ∀ v' w', w'.ownsRow base 5 1 v' (n + ds.length) ((bs ++ ds).map bv) → w.grownBy w' v.ownBlock → wpList Tryd.prog ops Q rest (a.put o.dst v') w') : wpList Tryd.prog ops Q (o :: rest) a w := by
  obtain ⟨i0, hi, hz0, hz1, hz2⟩ := info_parts infoU8
  obtain ⟨A, m, c, rfl, h1, h2, h3, h4⟩ := hS
  cases A with
  | none =>
    obtain rfl := h3 rfl
    obtain rfl : m = 0 := by omega
    obtain rfl : ds = [] := List.length_eq_zero_iff.1 h1
    refine wpList_append_own_none hgd s x 70 ho base 5 i0 1 Tryd.underlying70 hi v n (bs.map bv) hs hown hx ?_
    exact h v w (by simpa using hown) ⟨rfl, rfl, rfl, Nat.le_refl _, fun _ _ _ => rfl⟩
  | some ad =>
    refine wpList_append_own _ hgd s x 70 ho base 5 i0 (.int .u8 0) 1 1 Tryd.underlying70 hi hz0 hz1 hz2 rfl (by decide) v n (bs.map bv) hs hown ad m c (ds.map bv) hx (by rw [List.length_map, h1, Nat.mul_one]) h4.cells (bytes_oneCell _) (by unfold maxLen; omega) (by omega) hbase ?_
    intro v' w' hown' hg _
    rw [← h1, ← List.map_append] at hown'
    exact h v' w' hown' hg

/-- The same, where the operation is guarded, and its guard says yes. -/
theorem wpList_append_bytes_w {w : World} {ops : Array Oper} {rest : List Oper} {o : Oper} {a : Act} {Q : Exit → Act → World → Prop} (hw : Region.wanted o (yielded ops a.tmps) = true) (s x : Operand)
    (ho : o.op = .call { callee := .builtin .append, args := #[s, x], argTypes := #[70, 70] })
    (base : Nat) (v : Value) (n : Nat) (bs : List UInt8) (hs : a.eval s = v) (hown : w.ownsRow base 5 1 v n (bs.map bv))
    (S : Value) (ds : List UInt8) (hx : a.eval x = S) (hS : BSl w S ds) (hb : n + ds.length ≤ 140737488355328) (hbase : base ≤ w.heap.size)
    (h : ∀ v' w', w'.ownsRow base 5 1 v' (n + ds.length) ((bs ++ ds).map bv) → w.grownBy w' v.ownBlock → wpList Tryd.prog ops Q rest (a.put o.dst v') w') : wpList Tryd.prog ops Q (o :: rest) a w := by
  obtain ⟨i0, hi, hz0, hz1, hz2⟩ := info_parts infoU8
  obtain ⟨A, m, c, rfl, h1, h2, h3, h4⟩ := hS
  refine BigFrame.wpList_want hw fun K hK => ?_
  cases A with
  | none =>
    obtain rfl := h3 rfl
    obtain rfl : m = 0 := by omega
    obtain rfl : ds = [] := List.length_eq_zero_iff.1 h1
    have hrun := run_append_owned_none (P := Tryd.prog) (w := w) base 70 o.type 5 i0 1 Tryd.underlying70 hi v n (bs.map bv) hown
    unfold Oper.wp
    simp [execOp, ho, resolve, invoke, builtin, hs, hx, hrun, Result.andThen]
    exact hK _ _ (h v w (by simpa using hown) ⟨rfl, rfl, rfl, Nat.le_refl _, fun _ _ _ => rfl⟩)
  | some ad =>
    refine wp_append_own w s x 70 ho base 5 i0 (.int .u8 0) 1 1 Tryd.underlying70 hi hz0 hz1 hz2 rfl (by decide) v n (bs.map bv) hs hown ad m c (ds.map bv) hx (by rw [List.length_map, h1, Nat.mul_one]) h4.cells (bytes_oneCell _) (by unfold maxLen; omega) (by omega) hbase ?_
    intro v' w' hown' hg _
    rw [← h1, ← List.map_append] at hown'
    exact hK _ _ (h v' w' hown' hg)

theorem own_lit0 (w : World) : (w.alloc (.cells #[] 5)).ownsRow w.heap.size 5 1 (.slice (some ⟨w.heap.size, 0, none⟩) 0 0) 0 (([] : List UInt8).map bv) := World.ownsRow_lit w #[] 0 (Nat.le_refl _) (by unfold maxLen; omega) rfl

/-- As far as k the two rows are one. -/
def SameToB (xs ys : List UInt8) (k : Nat) : Prop := xs.take k = ys.take k
theorem SameToB.succ {xs ys : List UInt8} {k : Nat} (h : SameToB xs ys k) (h1 : k < xs.length) (h2 : k < ys.length) (e : xs[k] = ys[k]) : SameToB xs ys (k + 1) := by
  unfold SameToB at h ⊢
  rw [List.take_add_one, List.take_add_one, h, List.getElem?_eq_getElem h1, List.getElem?_eq_getElem h2, e]
theorem SameToB.all {xs ys : List UInt8} {k : Nat} (h : SameToB xs ys k) (h1 : ¬ k < xs.length) (hl : xs.length = ys.length) : xs = ys := by
  unfold SameToB at h
  rwa [List.take_of_length_le (by omega), List.take_of_length_le (by omega)] at h
theorem sameB_bool {xs ys : List UInt8} (h : xs = ys) : Ending.returned (.bool true) = .returned (.bool (decide (xs = ys))) := by rw [decide_eq_true h]
theorem differB_bool {xs ys : List UInt8} (h : xs ≠ ys) : Ending.returned (.bool false) = .returned (.bool (decide (xs = ys))) := by rw [decide_eq_false h]
theorem u8_eqb (x y : UInt8) : ((x.toNat : Int) == (y.toNat : Int)) = decide (x = y) := by
  by_cases h : x = y
  · subst h; simp
  · rw [decide_eq_false h, beq_eq_false_iff_ne]
    exact fun e => h (UInt8.toNat_inj.1 (by omega))

theorem bsl_lit (w : World) (bs : List UInt8) (n : Nat) (hn : bs.length = n) (O : Array Value) (hO : (bs.map bv).toArray = O) : BSl (w.alloc (.cells O 5)) (.slice (some ⟨w.heap.size, 0, none⟩) n n) bs :=
  ⟨_, n, n, rfl, hn, Nat.le_refl _, (fun e => by cases e), byt_lit w bs O hO⟩
end Go.Proofs.YtlijdgamobpndaaDoor
