/-
  Memory that a call makes of its own, in general: answers in new memory, lists of texts laid, owned, appended to, inside regions that draw and beside them.
  Conditions: each text's own.
-/
import Derived.Test.YteghldgopidhhaaTxt
import Derived.ArgAppend
import Derived.Maps.AppendAt
import Derived.Laws.AppendOwnNone
import Derived.Lib.RowBridge
namespace Go.Proofs.Yteghldgopidhhaa
open Go.RowKit

/-- A call that makes memory of its own: nothing that was there has turned. -/
def Ret (w : World) (v : Value) (e : Ending) (w' : World) : Prop := e = .returned v ∧ Below w.heap.size w w'
/-- A list of texts is answered, in new memory or none. -/
def SliceRet (w : World) (xs : List ByteArray) (e : Ending) (w' : World) : Prop :=
  ∃ A n c, e = .returned (.slice A n c) ∧ xs.length = n ∧ n ≤ c ∧ (A = none → c = 0) ∧ Txt w' A xs ∧ Below w.heap.size w w'
theorem ret_string {w : World} {a b : ByteArray} {w' : World} (h : a = b) (hb : Below w.heap.size w w') : Ret w (.string b) (.returned (.string a)) w' := ⟨by rw [h], hb⟩
theorem cell_alloc_texts (w : World) (xs : List ByteArray) (k : Nat) (hk : k < xs.length) : (w.alloc (.cells (xs.map Value.string).toArray 9)).cell? ⟨w.heap.size, k, none⟩ = some (.string xs[k]) := by
  rw [cell_of_row _ w.heap.size k (xs.map Value.string).toArray 9 (0, 0) (heap_alloc_new w _)]
  simp [hk]
theorem txt_new (w : World) (xs : List ByteArray) : Txt (w.alloc (.cells (xs.map Value.string).toArray 9)) (some ⟨w.heap.size, 0, none⟩) xs := fun _ =>
  ⟨w.heap.size, 0, rfl, by simp, fun j x hx => by
    obtain ⟨hj, rfl⟩ := List.getElem?_eq_some_iff.1 hx
    rw [Nat.zero_add]
    exact cell_alloc_texts w xs j hj⟩
theorem txt_nil (w : World) (A : Option Addr) : Txt w A [] := fun h => absurd rfl h
/-- A list that the caller has just laid. -/
theorem txt_lit (w : World) (xs : List ByteArray) (O : Array Value) (hO : (xs.map Value.string).toArray = O) : Txt (w.alloc (.cells O 9)) (some ⟨w.heap.size, 0, none⟩) xs := by
  subst hO; exact txt_new w xs
theorem below_lit (w : World) (O : Obj) : Below w.heap.size w (w.alloc O) := (Below.refl _ _).alloc (Nat.le_refl _) _
theorem below_from {w w' : World} {O : Obj} (h : Below (w.alloc O).heap.size (w.alloc O) w') : Below w.heap.size w w' := (below_lit w O).trans (h.mono (below_lit w O).size)
theorem below_lit9 (w : World) (q : Nat) (O : Obj) : Below w.heap.size w ((w.drewN q).alloc O) := (quietBelow w q).trans (below_lit (w.drewN q) O)
theorem below_drewN1 (w : World) (O : Obj) : Below w.heap.size w (w.drew.alloc O) := (Below.refl _ _).drew.alloc (Nat.le_refl _) O
theorem infoStr : (Try.prog.info? 9).map (fun i => (i.zero, i.size, i.bytes)) = some (some (.string ByteArray.empty), 1, 16) := by kernel_rfl
theorem txt_add (b o j : Nat) : (⟨b, o, none⟩ : Addr).add j = ⟨b, o + j, none⟩ := by
  unfold Addr.add
  by_cases h : j = 0
  · subst h; simp
  · simp [h]
theorem own_base {w : World} {base base' : Nat} {e : TypeId} {size : Nat} {v : Value} {n : Nat} {xs : List Value} (h : w.ownsRow base e size v n xs) (hb : base' ≤ base) : w.ownsRow base' e size v n xs := by
  rcases h with ⟨h0, h1 | ⟨g, cap, cur, h1, h2, h3⟩⟩
  · exact ⟨h0, .inl h1⟩
  · exact ⟨h0, .inr ⟨g, cap, cur, h1, Nat.le_trans hb h2, h3⟩⟩
/-- A row of the call's own that holds texts. -/
theorem txt_of_own {w : World} {base : Nat} {v : Value} {n : Nat} {xs : List ByteArray} (h : w.ownsRow base 9 1 v n (xs.map Value.string)) :
    ∃ A c, v = .slice A n c ∧ xs.length = n ∧ n ≤ c ∧ (A = none → c = 0) ∧ Txt w A xs := by
  have hl : xs.length = n := by have := h.1; simpa using this
  rcases h.2 with ⟨rfl, rfl⟩ | ⟨g, cap, cur, rfl, hb, hg, hn, hm, hs, ht⟩
  · obtain rfl : xs = [] := List.length_eq_zero_iff.1 hl
    exact ⟨none, 0, rfl, rfl, Nat.le_refl _, fun _ => rfl, txt_nil _ _⟩
  · refine ⟨some ⟨g, 0, none⟩, cap, rfl, hl, hn, fun e => absurd e (by simp), fun _ => ⟨g, 0, rfl, (h.lt g rfl).2, fun j x hx => ?_⟩⟩
    have hj : j < n := by rw [← hl]; exact (List.getElem?_eq_some_iff.1 hx).1
    rw [Nat.zero_add, h.cellAt j (by omega), List.getElem?_map, hx]; rfl
theorem texts_oneCell (xs : List ByteArray) : ∀ u ∈ xs.map Value.string, u.oneCell' = true := by
  intro u h
  obtain ⟨x, _, rfl⟩ := List.mem_map.1 h
  rfl
theorem texts_cells {w : World} {b o : Nat} {xs : List ByteArray} (h : ∀ j x, xs[j]? = some x → w.cell? ⟨b, o + j, none⟩ = some (.string x)) : ∀ j u, (xs.map Value.string)[j]? = some u → w.cell? ((⟨b, o, none⟩ : Addr).add j) = some u := by
  intro j u hu
  rw [List.getElem?_map] at hu
  cases hj : xs[j]? with
  | none => rw [hj] at hu; simp at hu
  | some x =>
    rw [hj] at hu
    simp at hu
    subst hu
    rw [txt_add]
    exact h j x hj
theorem own_cells {w w' : World} {base g m cap : Nat} {ys : List ByteArray} (how : w.ownsRow base 9 1 (.slice (some ⟨g, 0, none⟩) m cap) m (ys.map Value.string)) (hb : Below w.heap.size w w') (a : Nat) : ∀ j u, ((ys.drop a).map Value.string)[j]? = some u → w'.cell? ((⟨g, a, none⟩ : Addr).add j) = some u := by
  intro j u hu
  have hl : ys.length = m := by have := how.1; simpa using this
  rw [List.getElem?_map, List.getElem?_drop] at hu
  have hlt : a + j < m := by
    rcases Nat.lt_or_ge (a + j) ys.length with h | h
    · omega
    · rw [List.getElem?_eq_none h] at hu; cases hu
  rw [txt_add, hb.cell (p := ⟨g, a + j, none⟩) (how.lt g rfl).2, how.cellAt (a + j) (by omega), List.getElem?_map]
  exact hu
theorem own_take {w w' : World} {base g m cap : Nat} {ys : List ByteArray} (how : w.ownsRow base 9 1 (.slice (some ⟨g, 0, none⟩) m cap) m (ys.map Value.string)) (hb : Below w.heap.size w w') (a : Nat) : ∀ j u, ((ys.take a).map Value.string)[j]? = some u → w'.cell? ((⟨g, 0, none⟩ : Addr).add j) = some u := by
  intro j u hu
  refine own_cells how hb 0 j u ?_
  rw [List.drop_zero, List.getElem?_map]
  rw [List.getElem?_map, List.getElem?_take] at hu
  split at hu
  · exact hu
  · cases hu
/-- An append that makes a new array, and one onto a row of the call's own, as one step of a region that draws. -/
theorem step_append_grow {P : Program} {ops : Array Oper} {o : Oper} {a : Act} {w : World} {K : Act → World → Prop} {Q : Exit → Act → World → Prop} {E : Prop}
    (hg : o.guard = none) (s x : Operand) (t : TypeId) (hop : o.op = Op.call { callee := Callee.builtin Builtin.append, args := #[s, x], argTypes := #[t, t] })
    (e : TypeId) (i : TypeInfo) (z : Value) (size bytes : Nat) (h1 : P.underlying t = some (.slice e)) (h2 : P.info? e = some i) (h3 : i.zero = some z) (h4 : i.size = size) (h5 : i.bytes = bytes) (h6 : z.cells.size = size) (h7 : 0 < size)
    (b : Addr) (n cap : Nat) (olds : List Value) (hs : a.eval s = .slice (some b) n cap) (hlo : olds.length = n * size) (holds : ∀ j u, olds[j]? = some u → w.cell? (b.add j) = some u)
    (ad : Addr) (m c : Nat) (news : List Value) (hx : a.eval x = .slice (some ad) m c) (hn : news.length = m * size) (hc : ∀ j u, news[j]? = some u → w.cell? (ad.add j) = some u)
    (hgr : cap < n + m) (b1 : n + m ≤ maxLen) (b2 : (n + m) * bytes ≤ 140737488355328)
    (hK : ∀ v' w', w'.ownsRow w.heap.size e size v' (n + m) (olds ++ news) → w.grownBy w' none → K (a.put o.dst v') w') :
    if Region.wanted o (yielded ops a.tmps) = true then Oper.wp P o a w K Q else E := by
  have hw : Region.wanted o (yielded ops a.tmps) = true := by simp [Region.wanted, hg]
  rw [if_pos hw]
  obtain ⟨v', w', hrun, r1, r2⟩ := run_append_arg_grows (P := P) w t o.type e i z size bytes h1 h2 h3 h4 h5 h6 h7 b n cap olds hlo holds ad m c news hn hc hgr b1 b2
  unfold Oper.wp
  simp [execOp, hop, resolve, invoke, builtin, hs, hx, hrun, Result.andThen]
  exact hK v' w' r1 r2
theorem step_append_own {P : Program} {ops : Array Oper} {o : Oper} {a : Act} {w : World} {K : Act → World → Prop} {Q : Exit → Act → World → Prop} {E : Prop}
    (hg : o.guard = none) (s x : Operand) (t : TypeId) (hop : o.op = Op.call { callee := Callee.builtin Builtin.append, args := #[s, x], argTypes := #[t, t] })
    (base : Nat) (e : TypeId) (i : TypeInfo) (z : Value) (size bytes : Nat) (h1 : P.underlying t = some (.slice e)) (h2 : P.info? e = some i) (h3 : i.zero = some z) (h4 : i.size = size) (h5 : i.bytes = bytes) (h6 : z.cells.size = size) (h7 : 0 < size)
    (v : Value) (n : Nat) (xs : List Value) (hs : a.eval s = v) (hown : w.ownsRow base e size v n xs)
    (ad : Addr) (m c : Nat) (news : List Value) (hx : a.eval x = .slice (some ad) m c) (hn : news.length = m * size) (hc : ∀ j u, news[j]? = some u → w.cell? (ad.add j) = some u) (h1c : ∀ u ∈ news, u.oneCell' = true)
    (b1 : n + m ≤ maxLen) (b2 : (n + m) * bytes ≤ 140737488355328) (hbase : base ≤ w.heap.size)
    (hK : ∀ v' w', w'.ownsRow base e size v' (n + m) (xs ++ news) → w.grownBy w' v.ownBlock → (v' = .slice none 0 0 ↔ v = .slice none 0 0 ∧ m = 0) → K (a.put o.dst v') w') :
    if Region.wanted o (yielded ops a.tmps) = true then Oper.wp P o a w K Q else E := by
  have hw : Region.wanted o (yielded ops a.tmps) = true := by simp [Region.wanted, hg]
  rw [if_pos hw]
  obtain ⟨v', w', hrun, r1, r2, r3⟩ := run_append_own (P := P) w base t o.type e i z size bytes h1 h2 h3 h4 h5 h6 h7 v n xs hown ad m c news hn hc h1c b1 b2 hbase
  unfold Oper.wp
  simp only [execOp, hop, resolve, invoke, builtin, Sem.run_bind, Sem.run_pure, Result.andThen_ok, List.map_toArray, List.map_cons, List.map_nil, hs, hx, hrun]
  exact hK v' w' r1 r2 r3
/-- A list of texts in memory, as a value. -/
def TSl (w : World) (V : Value) (xs : List ByteArray) : Prop := ∃ A n c, V = .slice A n c ∧ xs.length = n ∧ n ≤ c ∧ (A = none → c = 0) ∧ Txt w A xs
theorem TSl.below {w w' : World} {V : Value} {xs : List ByteArray} (h : TSl w V xs) (hb : Below w.heap.size w w') : TSl w' V xs := by
  obtain ⟨A, n, c, e, h1, h2, h3, h4⟩ := h
  exact ⟨A, n, c, e, h1, h2, h3, h4.below hb⟩
theorem tsl_nil (w : World) : TSl w (.slice none 0 0) [] := ⟨none, 0, 0, rfl, rfl, Nat.le_refl _, fun _ => rfl, txt_nil _ _⟩
theorem tsl_own {w : World} {base : Nat} {v : Value} {n : Nat} {xs : List ByteArray} (h : w.ownsRow base 9 1 v n (xs.map Value.string)) : TSl w v xs := by
  obtain ⟨A, c, e, h1, h2, h3, h4⟩ := txt_of_own h
  exact ⟨A, n, c, e, h1, h2, h3, h4⟩
theorem tsl_lit (w : World) (xs : List ByteArray) (n : Nat) (hn : xs.length = n) (O : Array Value) (hO : (xs.map Value.string).toArray = O) : TSl (w.alloc (.cells O 9)) (.slice (some ⟨w.heap.size, 0, none⟩) n n) xs :=
  ⟨_, n, n, rfl, hn, Nat.le_refl _, (fun e => by cases e), txt_lit w xs O hO⟩
theorem own_alloc {w : World} {base : Nat} {e : TypeId} {size : Nat} {v : Value} {n : Nat} {xs : List Value} (h : w.ownsRow base e size v n xs) (O : Obj) : (w.alloc O).ownsRow base e size v n xs := by
  rcases h with ⟨h0, h1 | ⟨g, cap, cur, h1, h2, h3, h4⟩⟩
  · exact ⟨h0, .inl h1⟩
  · exact ⟨h0, .inr ⟨g, cap, cur, h1, h2, (heap_alloc_old w O (by
      rcases Nat.lt_or_ge g w.heap.size with h | h
      · exact h
      · rw [Array.getElem?_eq_none h] at h3; cases h3)).trans h3, h4⟩⟩
theorem own_below {w w' : World} {base : Nat} {e : TypeId} {size : Nat} {v : Value} {n : Nat} {xs : List Value} (h : w.ownsRow base e size v n xs) (hb : Below w.heap.size w w') : w'.ownsRow base e size v n xs := by
  rcases h with ⟨h0, h1 | ⟨g, cap, cur, h1, h2, h3, h4⟩⟩
  · exact ⟨h0, .inl h1⟩
  · exact ⟨h0, .inr ⟨g, cap, cur, h1, h2, (hb.block g (by
      rcases Nat.lt_or_ge g w.heap.size with h | h
      · exact h
      · rw [Array.getElem?_eq_none h] at h3; cases h3)).trans h3, h4⟩⟩
theorem own_block {w : World} {base : Nat} {e : TypeId} {size : Nat} {v : Value} {n : Nat} {xs : List Value} (h : w.ownsRow base e size v n xs) : ∀ k, v.ownBlock = some k → base ≤ k := by
  intro k hk
  rcases h.2 with ⟨rfl, _⟩ | ⟨g, cap, cur, rfl, h2, _⟩
  · cases hk
  · cases hk; exact h2
/-- What stands behind an append onto a row of one's own of what has just been laid. -/
theorem below_lay {base : Nat} {w w1 w2 : World} {O : Obj} {v : Value} {e : TypeId} {size n : Nat} {xs : List Value} (h : Below base w w1) (hb : base ≤ w1.heap.size) (ho : w1.ownsRow base e size v n xs) (hg : (w1.alloc O).grownBy w2 v.ownBlock) : Below base w w2 :=
  (h.alloc hb O).grown hg (by simp; omega) (own_block ho)
theorem one_oneCell (k : IntKind) (x : Int) : ∀ u ∈ [Value.int k x], u.oneCell' = true := by
  intro u h
  rw [List.mem_singleton] at h
  subst h
  rfl
theorem str_oneCell (x : ByteArray) : ∀ u ∈ [Value.string x], u.oneCell' = true := by
  intro u h
  rw [List.mem_singleton] at h
  subst h
  rfl
theorem take_snoc {α : Type} (zs : List α) {k : Nat} (hk : k < zs.length) : zs.take (k + 1) = zs.take k ++ [zs[k]] := by
  rw [List.take_add_one, List.getElem?_eq_getElem hk]; rfl
end Go.Proofs.Yteghldgopidhhaa
