import Derived.Test.YtlijdgamobpndaaDoorRows
import Derived.WalkKit
import Derived.WalkSpells
import Derived.WalkLawsBesides
import Derived.Deep.QuietTactic
import Derived.BigQuiet
import Derived.Deep.Draws
import Derived.Lib.Hide
/-
  Lists of texts in memory.
  Conditions: none.
-/
namespace Go.Proofs.YtlijdgamobpndaaDoor
open Go.RowKit

/-- The list at address A holds the texts xs. -/
def Txt (w : World) (A : Option Addr) (xs : List ByteArray) : Prop :=
  xs ≠ [] → ∃ b o, A = some ⟨b, o, none⟩ ∧ b < w.heap.size ∧ ∀ j x, xs[j]? = some x → w.cell? ⟨b, o + j, none⟩ = some (.string x)

theorem Txt.below {w w' : World} {A : Option Addr} {xs : List ByteArray} (h : Txt w A xs) (hb : Below w.heap.size w w') : Txt w' A xs := fun hne => by
  obtain ⟨b, o, rfl, hlt, hc⟩ := h hne
  exact ⟨b, o, rfl, Nat.lt_of_lt_of_le hlt hb.size, fun j x hx => (hb.cell (p := ⟨b, o + j, none⟩) hlt).trans (hc j x hx)⟩
theorem Txt.at_ {w : World} {A : Option Addr} {xs : List ByteArray} (h : Txt w A xs) {k : Nat} (hk : k < xs.length) :
    ∃ b o, A = some ⟨b, o, none⟩ ∧ w.cell? ⟨b, o + k, none⟩ = some (.string xs[k]) := by
  obtain ⟨b, o, rfl, _, hc⟩ := h (by intro e; subst e; exact absurd hk (Nat.not_lt_zero _))
  exact ⟨b, o, rfl, hc k _ (List.getElem?_eq_getElem hk)⟩
theorem quietBelow (w : World) (q : Nat) : Below w.heap.size w (w.drewN q) := ⟨rfl, rfl, rfl, Nat.le_refl _, fun _ _ => rfl⟩

theorem bytes_inj {x y : ByteArray} (h : x.toList = y.toList) : x = y := by
  rw [ByteArray.toList_eq, ByteArray.toList_eq] at h
  cases x; cases y
  exact congrArg ByteArray.mk (Array.toList_inj.1 h)
theorem bytes_eqb (x y : ByteArray) : (x.toList == y.toList) = decide (x = y) := by
  by_cases h : x = y
  · subst h; simp
  · rw [decide_eq_false h, beq_eq_false_iff_ne]; exact fun e => h (bytes_inj e)

end Go.Proofs.YtlijdgamobpndaaDoor
/-
  The contracts of the statements' own helpers over lists of texts: SameTexts returns whether two lists are one, Lengths returns at most 'most' only if the list has at most so many texts and bytes.
  Conditions: the lists lie in memory as told by 'Txt'.
-/
namespace Go.Proofs.YtlijdgamobpndaaDoor
open Go.RowKit

/-- As far as k the two lists are one. -/
def SameTo (xs ys : List ByteArray) (k : Nat) : Prop := xs.take k = ys.take k
theorem SameTo.zero (xs ys : List ByteArray) : SameTo xs ys 0 := rfl
theorem SameTo.succ {xs ys : List ByteArray} {k : Nat} (h : SameTo xs ys k) (h1 : k < xs.length) (h2 : k < ys.length) (e : xs[k] = ys[k]) : SameTo xs ys (k + 1) := by
  unfold SameTo at h ⊢
  rw [List.take_add_one, List.take_add_one, h, List.getElem?_eq_getElem h1, List.getElem?_eq_getElem h2, e]
theorem SameTo.all {xs ys : List ByteArray} {k : Nat} (h : SameTo xs ys k) (h1 : ¬ k < xs.length) (hl : xs.length = ys.length) : xs = ys := by
  unfold SameTo at h
  rwa [List.take_of_length_le (by omega), List.take_of_length_le (by omega)] at h

theorem same_bool {xs ys : List ByteArray} (h : xs = ys) : Ending.returned (.bool true) = .returned (.bool (decide (xs = ys))) := by rw [decide_eq_true h]
theorem differ_bool {xs ys : List ByteArray} (h : xs ≠ ys) : Ending.returned (.bool false) = .returned (.bool (decide (xs = ys))) := by rw [decide_eq_false h]

/-- The lengths of the first k texts, each one more. -/
def lensTo (xs : List ByteArray) (k : Nat) : Nat := ((xs.take k).map fun x => x.size + 1).sum
theorem lensTo_succ (xs : List ByteArray) (k : Nat) (h : k < xs.length) : lensTo xs (k + 1) = lensTo xs k + (1 + xs[k].size) := by
  unfold lensTo
  rw [List.take_add_one, List.getElem?_eq_getElem h, List.map_append, List.sum_append]
  simp only [Option.toList_some, List.map_cons, List.map_nil, List.sum_cons, List.sum_nil]
  omega
theorem lensTo_le (xs : List ByteArray) (k : Nat) : k ≤ xs.length → k ≤ lensTo xs k := by
  induction k with
  | zero => intro _; exact Nat.zero_le _
  | succ k ih => intro h; have := ih (by omega); rw [lensTo_succ xs k (by omega)]; omega
theorem lensTo_mem (xs : List ByteArray) (k : Nat) : k ≤ xs.length → ∀ j, j < k → ∀ h : j < xs.length, xs[j].size < lensTo xs k := by
  induction k with
  | zero => intro _ j hj; exact absurd hj (Nat.not_lt_zero _)
  | succ k ih =>
    intro hk j hj h
    rw [lensTo_succ xs k (by omega)]
    by_cases e : j = k
    · subst e; omega
    · have := ih (by omega) j (by omega) h
      omega

/-- What Lengths answers says: above 'most', or so many texts and so many bytes. -/
def LensRes (xs : List ByteArray) (most : Nat) (e : Ending) : Prop :=
  ∃ r : Nat, e = .returned (.int .i64 r) ∧ (r ≤ most → xs.length ≤ most ∧ ∀ x ∈ xs, x.size ≤ most)
theorem lensRes_over (xs : List ByteArray) (most r : Nat) (h : most < r) : LensRes xs most (.returned (.int .i64 r)) := ⟨r, rfl, fun h' => by omega⟩
theorem lensRes_all (xs : List ByteArray) (most k : Nat) (hk : ¬ k < xs.length) (h : k ≤ xs.length) : LensRes xs most (.returned (.int .i64 (lensTo xs k))) :=
  ⟨_, rfl, fun h' => ⟨by have := lensTo_le xs k h; omega, fun x hx => by
    obtain ⟨j, hj, rfl⟩ := List.getElem_of_mem hx
    have := lensTo_mem xs k h j (by omega) hj
    omega⟩⟩

end Go.Proofs.YtlijdgamobpndaaDoor
/-
  Plain facts about levels: as trees of any shape (what lies in memory), as levels that are right, their values, and that three numbers for each parameter are enough to hold two of them against each other.
  Conditions: none.
-/
namespace Go.Proofs.YtlijdgamobpndaaDoor
namespace Lvl

/-- What lies in memory: a kind, a number, arguments. -/
inductive Lv where
  | mk (k n : Int) (args : List Lv)
mutual
def nodes : Lv → Nat
  | .mk _ _ ts => 1 + nodesL ts
def nodesL : List Lv → Nat
  | [] => 0
  | a :: ts => nodes a + nodesL ts
end
theorem nodes_pos (t : Lv) : 1 ≤ nodes t := by
  cases t
  rw [nodes]; omega
theorem nodes_mem {t : Lv} : ∀ {l : List Lv}, t ∈ l → nodes t ≤ nodesL l
  | a :: l, h => by
    rw [nodesL]
    rcases List.mem_cons.1 h with rfl | h
    · omega
    · have := nodes_mem h
      omega
theorem nodesL_append : ∀ (l k : List Lv), nodesL (l ++ k) = nodesL l + nodesL k
  | [], k => by rw [List.nil_append, nodesL]; omega
  | a :: l, k => by rw [List.cons_append, nodesL, nodesL, nodesL_append l k]; omega

/-- A right level. -/
inductive L where
  | num (n : Nat)
  | par (i : Nat)
  | succ (a : L)
  | max (a b : L)
  | imax (a b : L)
def size : L → Nat
  | .num _ => 1
  | .par _ => 1
  | .succ a => 1 + size a
  | .max a b => 1 + (size a + size b)
  | .imax a b => 1 + (size a + size b)
/-- Its value, by the parameters'. -/
def val (f : Nat → Nat) : L → Nat
  | .num n => n
  | .par i => f i
  | .succ a => val f a + 1
  | .max a b => max (val f a) (val f b)
  | .imax a b => if val f b = 0 then 0 else max (val f a) (val f b)
/-- Numbers up to 100, and m parameters. -/
def Ok (m : Nat) : L → Prop
  | .num n => n ≤ 100
  | .par i => i < m
  | .succ a => Ok m a
  | .max a b => Ok m a ∧ Ok m b
  | .imax a b => Ok m a ∧ Ok m b
/-- The tree is this right level, for m parameters. -/
inductive IsL (m : Int) : Lv → L → Prop where
  | num (n : Nat) : n ≤ 100 → IsL m (.mk 1 n []) (.num n)
  | par (i : Nat) : (i : Int) < m → IsL m (.mk 2 i []) (.par i)
  | succ {a : Lv} {x : L} : IsL m a x → IsL m (.mk 3 0 [a]) (.succ x)
  | max {a b : Lv} {x y : L} : IsL m a x → IsL m b y → IsL m (.mk 4 0 [a, b]) (.max x y)
  | imax {a b : Lv} {x y : L} : IsL m a x → IsL m b y → IsL m (.mk 5 0 [a, b]) (.imax x y)
theorem isL_nodes {m : Int} {t : Lv} {x : L} (h : IsL m t x) : nodes t = size x := by
  induction h with
  | num n _ => rfl
  | par i _ => rfl
  | succ _ ih => simp only [nodes, nodesL, size, ih]; omega
  | max _ _ ih1 ih2 => simp only [nodes, nodesL, size, ih1, ih2]; omega
  | imax _ _ ih1 ih2 => simp only [nodes, nodesL, size, ih1, ih2]; omega
theorem isL_ok {m : Nat} {t : Lv} {x : L} (h : IsL (m : Int) t x) : Ok m x := by
  induction h with
  | num n h => exact h
  | par i h => show i < m; omega
  | succ _ ih => exact ih
  | max _ _ ih1 ih2 => exact ⟨ih1, ih2⟩
  | imax _ _ ih1 ih2 => exact ⟨ih1, ih2⟩
theorem isL_mono {m m' : Int} {t : Lv} {x : L} (h : IsL m t x) (hm : m ≤ m') : IsL m' t x := by
  induction h with
  | num n h => exact .num n h
  | par i h => exact .par i (by omega)
  | succ _ ih => exact .succ ih
  | max _ _ ih1 ih2 => exact .max ih1 ih2
  | imax _ _ ih1 ih2 => exact .imax ih1 ih2
theorem isL_one {m m' : Int} {t : Lv} {x y : L} (h : IsL m t x) (h' : IsL m' t y) : x = y := by
  induction h generalizing y with
  | num n _ => cases h'; rfl
  | par i _ => cases h'; rfl
  | succ _ ih => cases h' with | succ h1 => rw [ih h1]
  | max _ _ ih1 ih2 => cases h' with | max h1 h2 => rw [ih1 h1, ih2 h2]
  | imax _ _ ih1 ih2 => cases h' with | imax h1 h2 => rw [ih1 h1, ih2 h2]
mutual
/-- Is each node right? -/
def okB (m : Int) : Lv → Bool
  | .mk k n ts => if k = 1 then decide (0 ≤ n) && decide (n ≤ 100) && decide (ts.length = 0) else if k = 2 then decide (0 ≤ n) && decide (n < m) && decide (ts.length = 0)
    else if k = 3 then decide (n = 0) && decide (ts.length = 1) && okL m ts else if k = 4 ∨ k = 5 then decide (n = 0) && decide (ts.length = 2) && okL m ts else false
def okL (m : Int) : List Lv → Bool
  | [] => true
  | a :: l => okB m a && okL m l
end
theorem okL_all (m : Int) : ∀ l : List Lv, okL m l = l.all (okB m)
  | [] => by rw [okL]; rfl
  | a :: l => by rw [okL, okL_all m l, List.all_cons]
theorem okB_of {m : Int} {t : Lv} {x : L} (h : IsL m t x) : okB m t = true := by
  induction h with
  | num n h => simp [okB]; omega
  | par i h => simp [okB]; omega
  | succ _ ih => simp [okB, okL, ih]
  | max _ _ ih1 ih2 => simp [okB, okL, ih1, ih2]
  | imax _ _ ih1 ih2 => simp [okB, okL, ih1, ih2]
mutual
theorem okB_is {m : Int} : ∀ (t : Lv), okB m t = true → ∃ x, IsL m t x
  | .mk k n ts, h => by
    rw [okB] at h
    by_cases h1 : k = 1
    · subst h1
      simp at h
      obtain ⟨⟨h2, h3⟩, rfl⟩ := h
      obtain ⟨i, rfl⟩ := Int.eq_ofNat_of_zero_le h2
      exact ⟨_, .num i (by omega)⟩
    · rw [if_neg h1] at h
      by_cases h2 : k = 2
      · subst h2
        simp at h
        obtain ⟨⟨h2, h3⟩, rfl⟩ := h
        obtain ⟨i, rfl⟩ := Int.eq_ofNat_of_zero_le h2
        exact ⟨_, .par i h3⟩
      · rw [if_neg h2] at h
        by_cases h3 : k = 3
        · subst h3
          simp at h
          obtain ⟨⟨rfl, h4⟩, h5⟩ := h
          have hy := okL_is ts h5
          match ts, h4, hy with
          | [a], _, hy =>
            obtain ⟨x, ha⟩ := hy a (by simp)
            exact ⟨_, .succ ha⟩
        · rw [if_neg h3] at h
          by_cases h4 : k = 4 ∨ k = 5
          · rw [if_pos h4] at h
            simp at h
            obtain ⟨⟨rfl, h5⟩, h6⟩ := h
            have hy := okL_is ts h6
            match ts, h5, hy with
            | [a, b], _, hy =>
              obtain ⟨x, ha⟩ := hy a (by simp)
              obtain ⟨y, hb⟩ := hy b (by simp)
              rcases h4 with rfl | rfl
              · exact ⟨_, .max ha hb⟩
              · exact ⟨_, .imax ha hb⟩
          · rw [if_neg h4] at h
            cases h
theorem okL_is {m : Int} : ∀ (l : List Lv), okL m l = true → ∀ b ∈ l, ∃ x, IsL m b x
  | [], _, _, hb => by cases hb
  | a :: l, h, b, hb => by
    rw [okL, Bool.and_eq_true] at h
    have h1 := okB_is a h.1
    have h2 := okL_is l h.2
    rcases List.mem_cons.1 hb with e | hb
    · rw [e]; exact h1
    · exact h2 b hb
end
theorem okB_iff {m : Int} {t : Lv} : okB m t = true ↔ ∃ x, IsL m t x := ⟨okB_is t, fun ⟨_, h⟩ => okB_of h⟩
theorem size_pos (x : L) : 1 ≤ size x := by cases x <;> simp only [size] <;> omega

/-- Which parameters are above 0. -/
def Pat (s : Nat → Bool) (f : Nat → Nat) : Prop := ∀ i, f i = 0 ↔ s i = false
theorem val_zero {s : Nat → Bool} {f g : Nat → Nat} (hf : Pat s f) (hg : Pat s g) (x : L) : val f x = 0 ↔ val g x = 0 := by
  induction x with
  | num n => exact Iff.rfl
  | par i => exact (hf i).trans (hg i).symm
  | succ a _ => simp [val]
  | max a b ih1 ih2 => simp only [val]; omega
  | imax a b ih1 ih2 =>
    simp only [val]
    by_cases h : val f b = 0
    · rw [if_pos h, if_pos (ih2.1 h)]
    · rw [if_neg h, if_neg (fun e => h (ih2.2 e))]
      omega
/-- Its form where just these parameters are above 0: the greatest of a number and of parameters with something added. -/
def Form (s : Nat → Bool) (x : L) (c : Nat) (d : Nat → Option Nat) : Prop :=
  c ≤ 100 + size x ∧ (∀ i e, d i = some e → s i = true ∧ e ≤ size x) ∧
    ∀ f, Pat s f → c ≤ val f x ∧ (∀ i e, d i = some e → f i + e ≤ val f x) ∧ (val f x = c ∨ ∃ i e, d i = some e ∧ val f x = f i + e)
def joinO : Option Nat → Option Nat → Option Nat
  | none, y => y
  | x, none => x
  | some a, some b => some (max a b)
theorem joinO_some {x y : Option Nat} {e : Nat} (h : joinO x y = some e) : (x = some e ∨ y = some e) ∧ (∀ a, x = some a → a ≤ e) ∧ (∀ b, y = some b → b ≤ e) := by
  cases x with
  | none =>
    simp only [joinO] at h
    exact ⟨.inr h, fun _ h' => (by cases h'), fun b h' => by rw [h] at h'; cases h'; exact Nat.le_refl _⟩
  | some a =>
    cases y with
    | none =>
      simp only [joinO] at h
      exact ⟨.inl h, fun _ h' => by rw [h] at h'; cases h'; exact Nat.le_refl _, fun _ h' => (by cases h')⟩
    | some b =>
      simp only [joinO, Option.some.injEq] at h
      subst h
      refine ⟨?_, fun _ h' => by cases h'; omega, fun _ h' => by cases h'; omega⟩
      by_cases hab : a ≤ b
      · exact .inr (by rw [Nat.max_def, if_pos hab])
      · exact .inl (by rw [Nat.max_def, if_neg hab])
theorem joinO_left {x y : Option Nat} {a : Nat} (h : x = some a) : ∃ e, joinO x y = some e ∧ a ≤ e := by
  subst h
  cases y with
  | none => exact ⟨a, rfl, Nat.le_refl _⟩
  | some b => exact ⟨_, rfl, Nat.le_max_left _ _⟩
theorem joinO_right {x y : Option Nat} {b : Nat} (h : y = some b) : ∃ e, joinO x y = some e ∧ b ≤ e := by
  subst h
  cases x with
  | none => exact ⟨b, rfl, Nat.le_refl _⟩
  | some a => exact ⟨_, rfl, Nat.le_max_right _ _⟩
/-- The greater of two. -/
theorem form_join {s : Nat → Bool} {a b : L} {c1 c2 : Nat} {d1 d2 : Nat → Option Nat} (h1 : Form s a c1 d1) (h2 : Form s b c2 d2) (x : L) (hx : size x = 1 + (size a + size b)) (hv : ∀ f, Pat s f → val f x = max (val f a) (val f b)) :
    Form s x (max c1 c2) (fun i => joinO (d1 i) (d2 i)) := by
  obtain ⟨p1, q1, r1⟩ := h1
  obtain ⟨p2, q2, r2⟩ := h2
  refine ⟨by omega, fun i e h => ?_, fun f hf => ?_⟩
  · obtain ⟨h3, _, _⟩ := joinO_some h
    rcases h3 with h3 | h3
    · have := q1 i e h3
      exact ⟨this.1, by omega⟩
    · have := q2 i e h3
      exact ⟨this.1, by omega⟩
  · obtain ⟨u1, v1, w1⟩ := r1 f hf
    obtain ⟨u2, v2, w2⟩ := r2 f hf
    rw [hv f hf]
    refine ⟨by omega, fun i e h => ?_, ?_⟩
    · obtain ⟨h3, _, _⟩ := joinO_some h
      rcases h3 with h3 | h3
      · have := v1 i e h3; omega
      · have := v2 i e h3; omega
    · by_cases hle : val f a ≤ val f b
      · have e0 : max (val f a) (val f b) = val f b := by omega
        rw [e0]
        rcases w2 with w2 | ⟨i, e, h3, h4⟩
        · exact .inl (by omega)
        · obtain ⟨e', h5, h6⟩ := joinO_right (x := d1 i) h3
          refine .inr ⟨i, e', h5, ?_⟩
          obtain ⟨h7, _, _⟩ := joinO_some h5
          rcases h7 with h7 | h7
          · have := v1 i e' h7; omega
          · have := v2 i e' h7; omega
      · have e0 : max (val f a) (val f b) = val f a := by omega
        rw [e0]
        rcases w1 with w1 | ⟨i, e, h3, h4⟩
        · exact .inl (by omega)
        · obtain ⟨e', h5, h6⟩ := joinO_left (y := d2 i) h3
          refine .inr ⟨i, e', h5, ?_⟩
          obtain ⟨h7, _, _⟩ := joinO_some h5
          rcases h7 with h7 | h7
          · have := v1 i e' h7; omega
          · have := v2 i e' h7; omega
/-- A pattern's own numbers: 0, or 1. -/
def ones (s : Nat → Bool) : Nat → Nat := fun i => if s i then 1 else 0
theorem ones_pat (s : Nat → Bool) : Pat s (ones s) := fun i => by
  unfold ones
  cases s i <;> simp
theorem form_ex {m : Nat} (s : Nat → Bool) : ∀ (x : L), Ok m x → ∃ c d, Form s x c d
  | .num n, h => ⟨n, fun _ => none, by simp only [size]; have : n ≤ 100 := h; omega, (fun _ _ h => by cases h), fun f _ => ⟨Nat.le_refl _, (fun _ _ h => by cases h), .inl rfl⟩⟩
  | .par i, _ => by
    cases hs : s i
    · exact ⟨0, fun _ => none, by omega, (fun _ _ h => by cases h), fun f hf => ⟨Nat.zero_le _, (fun _ _ h => by cases h), .inl ((hf i).2 hs)⟩⟩
    · refine ⟨0, fun j => if j = i then some 0 else none, by omega, fun j e h => ?_, fun f hf => ⟨Nat.zero_le _, fun j e h => ?_, .inr ⟨i, 0, by simp, rfl⟩⟩⟩
      · by_cases hj : j = i
        · subst hj
          simp at h
          subst h
          exact ⟨hs, Nat.zero_le _⟩
        · simp [hj] at h
      · by_cases hj : j = i
        · subst hj
          simp at h
          subst h
          exact Nat.le_refl _
        · simp [hj] at h
  | .succ a, h => by
    obtain ⟨c, d, p, q, r⟩ := form_ex s a h
    refine ⟨c + 1, fun i => (d i).map (· + 1), by simp only [size]; omega, fun i e h => ?_, fun f hf => ?_⟩
    · obtain ⟨e', h1, rfl⟩ := Option.map_eq_some_iff.1 h
      have := q i e' h1
      exact ⟨this.1, by simp only [size]; omega⟩
    · obtain ⟨u, v, w⟩ := r f hf
      refine ⟨by simp only [val]; omega, fun i e h => ?_, ?_⟩
      · obtain ⟨e', h1, rfl⟩ := Option.map_eq_some_iff.1 h
        have := v i e' h1
        simp only [val]; omega
      · rcases w with w | ⟨i, e, h1, h2⟩
        · exact .inl (by simp only [val]; omega)
        · exact .inr ⟨i, e + 1, by simp [h1], by simp only [val]; omega⟩
  | .max a b, h => by
    obtain ⟨c1, d1, h1⟩ := form_ex s a h.1
    obtain ⟨c2, d2, h2⟩ := form_ex s b h.2
    exact ⟨_, _, form_join h1 h2 (.max a b) rfl fun _ _ => rfl⟩
  | .imax a b, h => by
    obtain ⟨c1, d1, h1⟩ := form_ex s a h.1
    obtain ⟨c2, d2, h2⟩ := form_ex s b h.2
    by_cases hz : val (ones s) b = 0
    · refine ⟨0, fun _ => none, by omega, (fun _ _ h => by cases h), fun f hf => ⟨Nat.zero_le _, (fun _ _ h => by cases h), .inl ?_⟩⟩
      have := (val_zero hf (ones_pat s) b).2 hz
      simp only [val]
      rw [if_pos this]
    · refine ⟨_, _, form_join h1 h2 (.imax a b) rfl fun f hf => ?_⟩
      have : ¬ val f b = 0 := fun e => hz ((val_zero hf (ones_pat s) b).1 e)
      simp only [val]
      rw [if_neg this]

/-- At most, whatever the parameters' numbers are; at most, where each is 0, 1 or 1000. -/
def Leq (x y : L) : Prop := ∀ f, val f x ≤ val f y
def LeqS (x y : L) : Prop := ∀ f : Nat → Nat, (∀ i, f i = 0 ∨ f i = 1 ∨ f i = 1000) → val f x ≤ val f y
/-- Three numbers for each parameter are enough. -/
theorem leq_small {m m' : Nat} {x y : L} (hx : Ok m x) (hy : Ok m' y) (ny : size y ≤ 500) (h : LeqS x y) : Leq x y := by
  intro f
  let s : Nat → Bool := fun i => decide (f i ≠ 0)
  have hf : Pat s f := fun i => by simp [s]
  obtain ⟨c1, d1, p1, q1, r1⟩ := form_ex s x hx
  obtain ⟨c2, d2, p2, q2, r2⟩ := form_ex s y hy
  obtain ⟨u1, v1, w1⟩ := r1 f hf
  obtain ⟨u2, v2, w2⟩ := r2 f hf
  have pos : ∀ i, s i = true → 1 ≤ f i := fun i hi => by
    have : f i ≠ 0 := of_decide_eq_true hi
    omega
  rcases w1 with w1 | ⟨i, e, h1, h2⟩
  · obtain ⟨a1, _, _⟩ := r1 (ones s) (ones_pat s)
    obtain ⟨_, _, a2⟩ := r2 (ones s) (ones_pat s)
    have hs := h (ones s) (fun i => by unfold ones; cases s i <;> simp)
    rcases a2 with a2 | ⟨j, e, h3, h4⟩
    · omega
    · have h5 := v2 j e h3
      have h6 := pos j (q2 j e h3).1
      have h7 : ones s j = 1 := by unfold ones; rw [(q2 j e h3).1]; rfl
      omega
  · let g : Nat → Nat := fun j => if j = i then 1000 else ones s j
    have hi := (q1 i e h1).1
    have hg : Pat s g := fun j => by
      show (if j = i then 1000 else ones s j) = 0 ↔ _
      by_cases hj : j = i
      · subst hj
        rw [if_pos rfl, hi]; simp
      · rw [if_neg hj]; exact ones_pat s j
    obtain ⟨_, b1, _⟩ := r1 g hg
    obtain ⟨_, _, b2⟩ := r2 g hg
    have hs := h g (fun j => by
      show (if j = i then 1000 else ones s j) = 0 ∨ (if j = i then 1000 else ones s j) = 1 ∨ (if j = i then 1000 else ones s j) = 1000
      by_cases hj : j = i
      · rw [if_pos hj]; exact .inr (.inr rfl)
      · rw [if_neg hj]; unfold ones; cases s j <;> simp)
    have h3 := b1 i e h1
    have gi : g i = 1000 := by show (if i = i then 1000 else ones s i) = 1000; rw [if_pos rfl]
    rcases b2 with b2 | ⟨j, e', h4, h5⟩
    · omega
    · have hj : j = i := by
        by_cases hj : j = i
        · exact hj
        · have gj : g j ≤ 1 := by
            show (if j = i then 1000 else ones s j) ≤ 1
            rw [if_neg hj]; unfold ones; cases s j <;> simp
          have := (q2 j e' h4).2
          omega
      subst hj
      have := v2 j e' h4
      omega
theorem leq_iff {m m' : Nat} {x y : L} (hx : Ok m x) (hy : Ok m' y) (ny : size y ≤ 500) : Leq x y ↔ LeqS x y := ⟨fun h f _ => h f, leq_small hx hy ny⟩
theorem leq_refl (x : L) : Leq x x := fun _ => Nat.le_refl _
theorem leq_trans {x y z : L} (h : Leq x y) (k : Leq y z) : Leq x z := fun f => Nat.le_trans (h f) (k f)
end Lvl
end Go.Proofs.YtlijdgamobpndaaDoor
/-
  Plain facts about terms, as trees of any shape (what lies in memory): nodes, which are right, their least bound, what is lifted.
  Conditions: none (what is a right level, a right name is left open).
-/
namespace Go.Proofs.YtlijdgamobpndaaDoor
open Lvl
namespace Trm

/-- What lies in memory: a kind, a number, a name, levels, arguments. -/
inductive Tm where
  | mk (k n : Int) (name : ByteArray) (levels : List Lv) (args : List Tm)
/-- Does the argument at place i stand in a binder more? -/
def binds (k : Int) (i : Nat) : Bool := (decide (k = 5) || decide (k = 6)) && decide (i = 1) || decide (k = 7) && decide (i = 2)
def under (k : Int) (i : Nat) (d : Int) : Int := if binds k i then d + 1 else d
mutual
def tnodes : Tm → Nat
  | .mk _ _ _ ls ts => 1 + nodesL ls + tnodesL ts
def tnodesL : List Tm → Nat
  | [] => 0
  | a :: ts => tnodes a + tnodesL ts
end
theorem tnodes_pos (t : Tm) : 1 ≤ tnodes t := by
  cases t
  rw [tnodes]; omega
/-- Are the kind, the number, the name, the levels and how many arguments there are right, in k variables? -/
def shape (RN : ByteArray → Bool) (RL : Lv → Bool) (kd n : Int) (nm : ByteArray) (ls : List Lv) (m : Nat) (k : Int) : Bool :=
  ls.all RL && (if kd = 1 then decide (0 ≤ n) && decide (n < k) && decide (ls.length = 0) && decide (m = 0) && decide (nm.size = 0)
    else decide (n = 0) && (if kd = 2 then decide (ls.length = 1) && decide (m = 0) && decide (nm.size = 0)
      else if kd = 3 then RN nm && decide (ls.length ≤ 4) && decide (m = 0)
      else decide (ls.length = 0) && decide (nm.size = 0) && (if kd = 4 ∨ kd = 5 ∨ kd = 6 then decide (m = 2) else decide (kd = 7) && decide (m = 3))))
variable (RN : ByteArray → Bool) (RL : Lv → Bool)
mutual
def okT : Tm → Int → Bool
  | .mk kd n nm ls ts, k => shape RN RL kd n nm ls ts.length k && okTL kd ts 0 k
def okTL (kd : Int) : List Tm → Nat → Int → Bool
  | [], _, _ => true
  | a :: ts, i, k => okT a (under kd i k) && okTL kd ts (i + 1) k
end
mutual
def loT : Tm → Int → Int
  | .mk kd n _ _ ts, d => if kd = 1 then max (n - d + 1) 0 else loTL kd ts 0 d
def loTL (kd : Int) : List Tm → Nat → Int → Int
  | [], _, _ => 0
  | a :: ts, i, d => max (loT a (under kd i d)) (loTL kd ts (i + 1) d)
end
mutual
theorem loT_pos : ∀ (t : Tm) (d : Int), 0 ≤ loT t d
  | .mk kd n _ _ ts, d => by
    rw [loT]
    split
    · omega
    · exact loTL_pos kd ts 0 d
theorem loTL_pos (kd : Int) : ∀ (ts : List Tm) (i : Nat) (d : Int), 0 ≤ loTL kd ts i d
  | [], _, _ => by rw [loTL]; exact Int.le_refl _
  | a :: ts, i, d => by
    rw [loTL]
    have := loT_pos a (under kd i d)
    omega
end
theorem under_add (kd : Int) (i : Nat) (k d : Int) : under kd i (k + d) = k + under kd i d := by
  unfold under
  split <;> omega
theorem shape_other {kd n : Int} {nm : ByteArray} {ls : List Lv} {m : Nat} (h : kd ≠ 1) (k k' : Int) : shape RN RL kd n nm ls m k = shape RN RL kd n nm ls m k' := by
  unfold shape
  rw [if_neg h, if_neg h]
theorem shape_var {n : Int} {nm : ByteArray} {ls : List Lv} {m : Nat} {K : Int} (h : shape RN RL 1 n nm ls m K = true) (k : Int) : shape RN RL 1 n nm ls m k = decide (n < k) := by
  unfold shape at h ⊢
  rw [if_pos rfl] at h ⊢
  simp only [Bool.and_eq_true, decide_eq_true_eq] at h
  obtain ⟨h1, ⟨⟨⟨h2, h3⟩, h4⟩, h5⟩, h6⟩ := h
  simp [h1, h2, h4, h5, h6]
mutual
/-- What is right in so many variables is so in k just if its least bound is at most k. -/
theorem okT_lo : ∀ (t : Tm) (K k d : Int), okT RN RL t K = true → 0 ≤ k → (okT RN RL t (k + d) = true ↔ loT t d ≤ k)
  | .mk kd n nm ls ts, K, k, d, h, hk => by
    rw [okT, Bool.and_eq_true] at h
    rw [okT, loT, Bool.and_eq_true]
    by_cases h1 : kd = 1
    · subst h1
      rw [if_pos rfl, shape_var RN RL h.1, decide_eq_true_eq]
      have hl : ts = [] := by
        have := h.1
        unfold shape at this
        rw [if_pos rfl] at this
        simp only [Bool.and_eq_true, decide_eq_true_eq] at this
        exact List.length_eq_zero_iff.1 this.2.1.2
      subst hl
      rw [okTL]
      simp only [and_true]
      omega
    · rw [if_neg h1, shape_other RN RL h1 (k + d) K, ← okTL_lo kd ts 0 K k d h.2 hk]
      exact ⟨fun h' => h'.2, fun h' => ⟨h.1, h'⟩⟩
theorem okTL_lo (kd : Int) : ∀ (ts : List Tm) (i : Nat) (K k d : Int), okTL RN RL kd ts i K = true → 0 ≤ k → (okTL RN RL kd ts i (k + d) = true ↔ loTL kd ts i d ≤ k)
  | [], _, _, k, d, _, hk => by
    rw [okTL, loTL]
    exact ⟨fun _ => hk, fun _ => rfl⟩
  | a :: ts, i, K, k, d, h, hk => by
    rw [okTL, Bool.and_eq_true] at h
    rw [okTL, loTL, Bool.and_eq_true, under_add, okT_lo a _ k _ h.1 hk, okTL_lo kd ts (i + 1) K k d h.2 hk]
    omega
end
mutual
/-- What is lifted: c added to the variables that are loose in d binders. -/
def liT (c : Int) : Tm → Int → Tm
  | .mk kd n nm ls ts, d => .mk kd (if kd = 1 ∧ d ≤ n then n + c else n) nm ls (liTL c kd ts 0 d)
def liTL (c : Int) (kd : Int) : List Tm → Nat → Int → List Tm
  | [], _, _ => []
  | a :: ts, i, d => liT c a (under kd i d) :: liTL c kd ts (i + 1) d
end
mutual
theorem liT_nodes (c : Int) : ∀ (t : Tm) (d : Int), tnodes (liT c t d) = tnodes t
  | .mk kd n nm ls ts, d => by rw [liT, tnodes, tnodes, liTL_nodes c kd ts 0 d]
theorem liTL_nodes (c : Int) (kd : Int) : ∀ (ts : List Tm) (i : Nat) (d : Int), tnodesL (liTL c kd ts i d) = tnodesL ts
  | [], _, _ => by rw [liTL]
  | a :: ts, i, d => by rw [liTL, tnodesL, tnodesL, liT_nodes c a, liTL_nodes c kd ts]
end
theorem liTL_length (c : Int) (kd : Int) : ∀ (ts : List Tm) (i : Nat) (d : Int), (liTL c kd ts i d).length = ts.length
  | [], _, _ => by rw [liTL]
  | a :: ts, i, d => by rw [liTL, List.length_cons, List.length_cons, liTL_length c kd ts]
mutual
/-- A lifted term, looked at from c binders further in, is bound where the term was. -/
theorem liT_lo (c : Int) (hc : 0 ≤ c) : ∀ (t : Tm) (d : Int), loT (liT c t d) (c + d) = loT t d
  | .mk kd n nm ls ts, d => by
    rw [liT, loT, loT]
    split
    · rename_i h1
      subst h1
      split <;> omega
    · exact liTL_lo c hc kd ts 0 d
theorem liTL_lo (c : Int) (hc : 0 ≤ c) (kd : Int) : ∀ (ts : List Tm) (i : Nat) (d : Int), loTL kd (liTL c kd ts i d) i (c + d) = loTL kd ts i d
  | [], _, _ => by rw [liTL, loTL, loTL]
  | a :: ts, i, d => by rw [liTL, loTL, loTL, under_add, liT_lo c hc a, liTL_lo c hc kd ts]
end
mutual
/-- A lifted term is right in c variables more. -/
theorem liT_ok (c : Int) (hc : 0 ≤ c) : ∀ (t : Tm) (K d : Int), okT RN RL t K = true → okT RN RL (liT c t d) (K + c) = true
  | .mk kd n nm ls ts, K, d, h => by
    rw [okT, Bool.and_eq_true] at h
    rw [liT, okT, Bool.and_eq_true, liTL_length]
    refine ⟨?_, liTL_ok c hc kd ts 0 K d h.2⟩
    by_cases h1 : kd = 1
    · subst h1
      have hs := h.1
      unfold shape at hs ⊢
      rw [if_pos rfl] at hs ⊢
      simp only [Bool.and_eq_true, decide_eq_true_eq] at hs ⊢
      obtain ⟨q1, ⟨⟨⟨q2, q3⟩, q4⟩, q5⟩, q6⟩ := hs
      refine ⟨q1, ⟨⟨⟨?_, ?_⟩, q4⟩, q5⟩, q6⟩
      · split <;> omega
      · split <;> omega
    · rw [if_neg (fun h => h1 h.1), shape_other RN RL h1 (K + c) K]
      exact h.1
theorem liTL_ok (c : Int) (hc : 0 ≤ c) (kd : Int) : ∀ (ts : List Tm) (i : Nat) (K d : Int), okTL RN RL kd ts i K = true → okTL RN RL kd (liTL c kd ts i d) i (K + c) = true
  | [], _, _, _, _ => by rw [liTL, okTL]
  | a :: ts, i, K, d, h => by
    rw [okTL, Bool.and_eq_true] at h
    rw [liTL, okTL, Bool.and_eq_true]
    have e : under kd i (K + c) = under kd i K + c := by
      unfold under
      split <;> omega
    rw [e]
    exact ⟨liT_ok c hc a _ _ h.1, liTL_ok c hc kd ts (i + 1) K d h.2⟩
end
/-- The functions from types to a type, from the i-th type on. -/
def arrow (to : Tm) : List Tm → Nat → Tm
  | [], i => liT i to 0
  | a :: fs, i => .mk 6 0 ⟨#[]⟩ [] [liT i a 0, arrow to fs (i + 1)]
theorem lo_pi (a b : Tm) (d : Int) : loT (.mk 6 0 ⟨#[]⟩ [] [a, b]) d = max (loT a d) (loT b (d + 1)) := by
  rw [loT, if_neg (by decide), loTL, loTL, loTL]
  have e0 : under 6 0 d = d := by unfold under; simp [binds]
  have e1 : under 6 (0 + 1) d = d + 1 := by unfold under; simp [binds]
  rw [e0, e1]
  have := loT_pos b (d + 1)
  omega
theorem arrow_lo (to : Tm) : ∀ (fs : List Tm) (i : Nat), loT (arrow to fs i) i = fs.foldr (fun a m => max (loT a 0) m) (loT to 0)
  | [], i => by
    rw [arrow, List.foldr_nil]
    have := liT_lo (i : Int) (by omega) to 0
    rwa [Int.add_zero] at this
  | a :: fs, i => by
    rw [arrow, lo_pi, List.foldr_cons, show ((i : Int) + 1) = ((i + 1 : Nat) : Int) by omega, arrow_lo to fs (i + 1)]
    have := liT_lo (i : Int) (by omega) a 0
    rw [Int.add_zero] at this
    rw [this]
theorem arrow_nodes (to : Tm) : ∀ (fs : List Tm) (i : Nat), tnodes (arrow to fs i) = tnodesL fs + fs.length + tnodes to
  | [], i => by rw [arrow, liT_nodes, tnodesL, List.length_nil]; omega
  | a :: fs, i => by
    rw [arrow, tnodes, tnodesL, tnodesL, tnodesL, liT_nodes, arrow_nodes to fs (i + 1), List.length_cons, tnodesL, nodesL]
    omega
theorem okT_mono {t : Tm} {k : Int} (h : okT RN RL t k = true) (hk : 0 ≤ k) (c : Int) (hc : 0 ≤ c) : okT RN RL t (k + c) = true := by
  have h1 := (okT_lo RN RL t k k 0 h hk).1 (by rw [Int.add_zero]; exact h)
  have h2 := (okT_lo RN RL t k (k + c) 0 h (by omega)).2 (by omega)
  rwa [Int.add_zero] at h2
/-- A term applied to several, one behind the other. -/
def apps (f : Tm) : List Tm → Tm
  | [] => f
  | a :: ts => apps (.mk 4 0 ⟨#[]⟩ [] [f, a]) ts
theorem apps_nodes : ∀ (ts : List Tm) (f : Tm), tnodes (apps f ts) = tnodes f + tnodesL ts + ts.length
  | [], f => by rw [apps, tnodesL, List.length_nil]; omega
  | a :: ts, f => by
    rw [apps, apps_nodes ts, tnodes, tnodesL, tnodesL, tnodesL, tnodesL, nodesL, List.length_cons]
    omega
theorem ok_app {f a : Tm} {k : Int} (hf : okT RN RL f k = true) (ha : okT RN RL a k = true) : okT RN RL (.mk 4 0 ⟨#[]⟩ [] [f, a]) k = true := by
  rw [okT, okTL, okTL, okTL]
  have e0 : under 4 0 k = k := by unfold under; simp [binds]
  have e1 : under 4 (0 + 1) k = k := by unfold under; simp [binds]
  rw [e0, e1, hf, ha]
  simp [shape]
  rfl
theorem apps_ok {k : Int} : ∀ (ts : List Tm) (f : Tm), okT RN RL f k = true → (∀ a ∈ ts, okT RN RL a k = true) → okT RN RL (apps f ts) k = true
  | [], f, hf, _ => by rw [apps]; exact hf
  | a :: ts, f, hf, h => by
    rw [apps]
    exact apps_ok ts _ (ok_app RN RL hf (h a (by simp))) fun b hb => h b (by simp [hb])
/-- A term over several types, the first one outermost. -/
def over (kd : Int) (f : Tm) : List Tm → Tm
  | [] => f
  | a :: ts => .mk kd 0 ⟨#[]⟩ [] [a, over kd f ts]
theorem over_nodes (kd : Int) (f : Tm) : ∀ (ts : List Tm), tnodes (over kd f ts) = tnodes f + tnodesL ts + ts.length
  | [] => by rw [over, tnodesL, List.length_nil]; omega
  | a :: ts => by
    rw [over, tnodes, tnodesL, tnodesL, tnodesL, tnodesL, nodesL, over_nodes kd f ts, List.length_cons]
    omega
theorem over_ok {kd : Int} (hkd : kd = 5 ∨ kd = 6) (f : Tm) : ∀ (ts : List Tm) (k : Int), 0 ≤ k → okT RN RL f k = true → (∀ a ∈ ts, okT RN RL a k = true) → okT RN RL (over kd f ts) k = true
  | [], k, _, hf, _ => by rw [over]; exact hf
  | a :: ts, k, hk, hf, h => by
    rw [over, okT, okTL, okTL, okTL]
    have e0 : under kd 0 k = k := by unfold under; simp [binds]
    have e1 : under kd (0 + 1) k = k + 1 := by
      unfold under
      rcases hkd with rfl | rfl <;> simp [binds]
    rw [e0, e1, h a (by simp), over_ok hkd f ts (k + 1) (by omega) (okT_mono RN RL hf hk 1 (by omega)) fun b hb => okT_mono RN RL (h b (by simp [hb])) hk 1 (by omega)]
    rcases hkd with rfl | rfl <;> simp [shape] <;> rfl
/-- A term's head, and what it is applied to. -/
def spine : Tm → Tm × List Tm
  | .mk k n nm ls [g, a] => if k = 4 then ((spine g).1, (spine g).2 ++ [a]) else (.mk k n nm ls [g, a], [])
  | t => (t, [])
theorem spine_app (f a : Tm) : spine (.mk 4 0 ⟨#[]⟩ [] [f, a]) = ((spine f).1, (spine f).2 ++ [a]) := by rw [spine, if_pos rfl]
theorem spine_apps : ∀ (ts : List Tm) (f : Tm), spine (apps f ts) = ((spine f).1, (spine f).2 ++ ts)
  | [], f => by rw [apps, List.append_nil]
  | a :: ts, f => by
    rw [apps, spine_apps ts, spine_app, List.append_assoc]
    rfl
end Trm
end Go.Proofs.YtlijdgamobpndaaDoor
/-
  Plain facts about arenas: levels as bytes, nodes held once each, what is held ahead of what.
  Conditions: none.
-/
namespace Go.Proofs.YtlijdgamobpndaaDoor
open Lvl
open Trm
namespace Arn

/-- A number as a byte. -/
def bk (x : Int) : UInt8 := UInt8.ofNat x.toNat
theorem bk_toNat {x : Int} (h0 : 0 ≤ x) (h1 : x ≤ 255) : ((bk x).toNat : Int) = x := by
  unfold bk
  rw [UInt8.toNat_ofNat']
  omega
theorem bk_inj {x y : Int} (h0 : 0 ≤ x) (h1 : x ≤ 255) (g0 : 0 ≤ y) (g1 : y ≤ 255) (h : bk x = bk y) : x = y := by
  rw [← bk_toNat h0 h1, ← bk_toNat g0 g1, h]
mutual
/-- A level's bytes. -/
def encV : Lv → List UInt8
  | .mk k n ts => bk k :: bk n :: bk ts.length :: encL ts
def encL : List Lv → List UInt8
  | [] => []
  | l :: ls => encV l ++ encL ls
end
mutual
/-- Has each number of a level room in a byte? -/
def smV : Lv → Prop
  | .mk k n ts => (0 ≤ k ∧ k ≤ 255 ∧ 0 ≤ n ∧ n ≤ 255 ∧ ts.length ≤ 255) ∧ smL ts
def smL : List Lv → Prop
  | [] => True
  | l :: ls => smV l ∧ smL ls
end
theorem smL_mem : ∀ {ls : List Lv}, smL ls → ∀ l ∈ ls, smV l
  | _ :: _, h, l, hl => by
    rw [smL] at h
    rcases List.mem_cons.1 hl with rfl | hl
    · exact h.1
    · exact smL_mem h.2 l hl
mutual
theorem smV_ok (m : Int) (hm : m ≤ 255) : ∀ l : Lv, okB m l = true → smV l
  | .mk k n ts, h => by
    rw [okB] at h
    rw [smV]
    by_cases h1 : k = 1
    · simp [h1] at h
      obtain ⟨⟨h2, h3⟩, h4⟩ := h
      subst h4
      exact ⟨by simp; omega, by rw [smL]; trivial⟩
    by_cases h2 : k = 2
    · simp [h2] at h
      obtain ⟨⟨h3, h4⟩, h5⟩ := h
      subst h5
      exact ⟨by simp; omega, by rw [smL]; trivial⟩
    by_cases h3 : k = 3
    · simp [h3] at h
      exact ⟨by omega, smL_ok m hm ts h.2⟩
    by_cases h4 : k = 4 ∨ k = 5
    · rw [if_neg h1, if_neg h2, if_neg h3, if_pos h4] at h
      simp only [Bool.and_eq_true, decide_eq_true_eq] at h
      exact ⟨by omega, smL_ok m hm ts h.2⟩
    · rw [if_neg h1, if_neg h2, if_neg h3, if_neg h4] at h
      cases h
theorem smL_ok (m : Int) (hm : m ≤ 255) : ∀ ls : List Lv, okL m ls = true → smL ls
  | [], _ => by rw [smL]; trivial
  | l :: ls, h => by
    rw [okL, Bool.and_eq_true] at h
    rw [smL]
    exact ⟨smV_ok m hm l h.1, smL_ok m hm ls h.2⟩
end
mutual
theorem encV_inj : ∀ (a b : Lv) (r r' : List UInt8), smV a → smV b → encV a ++ r = encV b ++ r' → a = b ∧ r = r'
  | .mk k n ts, .mk k' n' ts', r, r', h, h', e => by
    rw [smV] at h h'
    rw [encV, encV] at e
    simp only [List.cons_append, List.cons.injEq] at e
    obtain ⟨e1, e2, e3, e4⟩ := e
    obtain ⟨⟨a1, a2, a3, a4, a5⟩, a6⟩ := h
    obtain ⟨⟨b1, b2, b3, b4, b5⟩, b6⟩ := h'
    have c1 := bk_inj a1 a2 b1 b2 e1
    have c2 := bk_inj a3 a4 b3 b4 e2
    have c3 := bk_inj (by omega) (by omega) (by omega) (by omega) e3
    obtain ⟨c4, c5⟩ := encL_inj ts ts' r r' a6 b6 (by omega) e4
    rw [c1, c2, c4]
    exact ⟨rfl, c5⟩
theorem encL_inj : ∀ (xs ys : List Lv) (r r' : List UInt8), smL xs → smL ys → xs.length = ys.length → encL xs ++ r = encL ys ++ r' → xs = ys ∧ r = r'
  | [], [], r, r', _, _, _, e => by
    rw [encL] at e
    exact ⟨rfl, e⟩
  | a :: xs, b :: ys, r, r', h, h', hl, e => by
    rw [smL] at h h'
    rw [encL, encL, List.append_assoc, List.append_assoc] at e
    obtain ⟨e1, e2⟩ := encV_inj a b _ _ h.1 h'.1 e
    obtain ⟨e3, e4⟩ := encL_inj xs ys r r' h.2 h'.2 (by simpa using hl) e2
    rw [e1, e3]
    exact ⟨rfl, e4⟩
end
theorem encV_ne (l : Lv) : encV l ≠ [] := by
  cases l
  rw [encV]
  exact fun h => by cases h
theorem encL_one : ∀ (xs ys : List Lv), smL xs → smL ys → encL xs = encL ys → xs = ys
  | [], [], _, _, _ => rfl
  | [], b :: ys, _, _, e => by
    rw [encL, encL] at e
    exact absurd (List.append_eq_nil_iff.1 e.symm).1 (encV_ne b)
  | a :: xs, [], _, _, e => by
    rw [encL, encL] at e
    exact absurd (List.append_eq_nil_iff.1 e).1 (encV_ne a)
  | a :: xs, b :: ys, h, h', e => by
    rw [smL] at h h'
    rw [encL, encL] at e
    obtain ⟨e1, e2⟩ := encV_inj a b _ _ h.1 h'.1 e
    rw [e1, encL_one xs ys h.2 h'.2 e2]
mutual
theorem encV_len : ∀ l : Lv, (encV l).length = 3 * nodes l
  | .mk k n ts => by
    rw [encV, nodes, List.length_cons, List.length_cons, List.length_cons, encL_len ts]
    omega
theorem encL_len : ∀ ls : List Lv, (encL ls).length = 3 * nodesL ls
  | [] => by rw [encL, nodesL]; rfl
  | l :: ls => by
    rw [encL, nodesL, List.length_append, encV_len l, encL_len ls]
    omega
end
theorem encL_append : ∀ xs ys : List Lv, encL (xs ++ ys) = encL xs ++ encL ys
  | [], ys => by rw [List.nil_append, encL]; rfl
  | a :: xs, ys => by rw [List.cons_append, encL, encL, encL_append xs ys, List.append_assoc]
theorem encL_take {ls : List Lv} {j : Nat} (h : j < ls.length) : encL (ls.take (j + 1)) = encL (ls.take j) ++ encV ls[j] := by
  rw [List.take_add_one, List.getElem?_eq_getElem h, encL_append]
  simp [encL]

/-- A node as far as it is held against others. -/
structure Ky where
  kd : Int
  n : Int
  nm : ByteArray
  lv : ByteArray
  a0 : Nat
  a1 : Nat
  a2 : Nat
deriving DecidableEq
structure Nd where
  key : Ky
  lo : Int
/-- The bytes of levels. -/
def lvB (ls : List Lv) : ByteArray := ⟨(encL ls).toArray⟩
theorem lvB_inj {xs ys : List Lv} (ha : smL xs) (hb : smL ys) (h : lvB xs = lvB ys) : xs = ys := by
  unfold lvB at h
  exact encL_one xs ys ha hb (List.toArray_inj (ByteArray.mk.inj h))
/-- The key of a term whose arguments have these numbers. -/
def keyOf (k n : Int) (nm : ByteArray) (ls : List Lv) (ids : List Nat) : Ky := ⟨k, n, nm, lvB ls, ids.getD 0 0, ids.getD 1 0, ids.getD 2 0⟩
/-- The number of a key; 0, if it isn't held. -/
def numF : List Nd → Ky → Nat → Nat
  | [], _, _ => 0
  | d :: ns, x, i => if d.key = x then i + 1 else numF ns x (i + 1)
def num (ns : List Nd) (x : Ky) : Nat := numF ns x 0
theorem numF_snoc (x : Ky) (d : Nd) : ∀ (ns : List Nd) (i : Nat), numF (ns ++ [d]) x i = if numF ns x i ≠ 0 then numF ns x i else if d.key = x then i + ns.length + 1 else 0
  | [], i => by
    rw [List.nil_append, numF, numF, numF]
    simp
  | e :: ns, i => by
    rw [List.cons_append, numF, numF]
    by_cases h : e.key = x
    · simp [h]
    · rw [if_neg h, if_neg h, numF_snoc x d ns (i + 1), List.length_cons, show i + 1 + ns.length + 1 = i + (ns.length + 1) + 1 by omega]
theorem num_snoc (x : Ky) (d : Nd) (ns : List Nd) : num (ns ++ [d]) x = if num ns x ≠ 0 then num ns x else if d.key = x then ns.length + 1 else 0 := by
  unfold num
  rw [numF_snoc, Nat.zero_add]
theorem numF_get {x : Ky} : ∀ {ns : List Nd} {i j : Nat}, numF ns x i = j → j ≠ 0 → i < j ∧ ∃ d, ns[j - 1 - i]? = some d ∧ d.key = x
  | [], i, j, h, h0 => by rw [numF] at h; omega
  | d :: ns, i, j, h, h0 => by
    rw [numF] at h
    split at h
    · subst h
      refine ⟨by omega, d, ?_, by assumption⟩
      rw [show i + 1 - 1 - i = 0 by omega]
      rfl
    · obtain ⟨h1, e, h2, h3⟩ := numF_get h h0
      refine ⟨by omega, e, ?_, h3⟩
      rw [show j - 1 - i = (j - 1 - (i + 1)) + 1 by omega, List.getElem?_cons_succ]
      exact h2
theorem num_get {x : Ky} {ns : List Nd} {j : Nat} (h : num ns x = j) (h0 : j ≠ 0) : ∃ d, ns[j - 1]? = some d ∧ d.key = x := by
  obtain ⟨_, d, h1, h2⟩ := numF_get h h0
  exact ⟨d, by simpa using h1, h2⟩
theorem num_le {x : Ky} {ns : List Nd} {j : Nat} (h : num ns x = j) (h0 : j ≠ 0) : j ≤ ns.length := by
  obtain ⟨d, h1, _⟩ := num_get h h0
  obtain ⟨h2, _⟩ := List.getElem?_eq_some_iff.1 h1
  omega
def nd0 : Nd := ⟨⟨0, 0, ⟨#[]⟩, ⟨#[]⟩, 0, 0, 0⟩, 0⟩
/-- The node of a number; noughts, if there is none. -/
def nodeAt (ns : List Nd) (id : Int) : Nd := if id < 1 then nd0 else (ns[id.toNat - 1]?).getD nd0
/-- The place of the argument in a binder more; -1, if there is none. -/
def bindAt (kd : Int) : Int := if kd = 5 ∨ kd = 6 then 1 else if kd = 7 then 2 else -1
def need (ns : List Nd) (x : Ky) (i a : Nat) : Int := if (i : Int) = bindAt x.kd then (nodeAt ns a).lo - 1 else (nodeAt ns a).lo
def needs (ns : List Nd) (x : Ky) : Int := if x.kd = 1 then x.n + 1 else max (max (max 0 (need ns x 0 x.a0)) (need ns x 1 x.a1)) (need ns x 2 x.a2)
/-- The number of a key, a new one if it isn't held; 0, if there is no room for that; and what is held then. -/
def numT (most : Nat) (ns : List Nd) (x : Ky) : Nat × List Nd := if num ns x ≠ 0 then (num ns x, ns) else if most ≤ ns.length then (0, ns) else (ns.length + 1, ns ++ [⟨x, needs ns x⟩])
mutual
def holdT (most : Nat) : Tm → List Nd → Nat × List Nd
  | .mk k n nm ls ts, ns => match holdL most ts ns with
    | (some ids, ns') => numT most ns' (keyOf k n nm ls ids)
    | (none, ns') => (0, ns')
def holdL (most : Nat) : List Tm → List Nd → Option (List Nat) × List Nd
  | [], ns => (some [], ns)
  | t :: ts, ns => match holdT most t ns with
    | (0, ns') => (none, ns')
    | (i + 1, ns') => match holdL most ts ns' with
      | (some ids, ns'') => (some ((i + 1) :: ids), ns'')
      | (none, ns'') => (none, ns'')
end
theorem holdL_append (most : Nat) : ∀ (ts us : List Tm) (ns : List Nd), holdL most (ts ++ us) ns = match holdL most ts ns with
    | (some ids, ns') => (match holdL most us ns' with
      | (some ids', ns'') => (some (ids ++ ids'), ns'')
      | (none, ns'') => (none, ns''))
    | (none, ns') => (none, ns')
  | [], us, ns => by
    rw [List.nil_append, holdL]
    simp only
    rcases holdL most us ns with ⟨_ | ids, ns'⟩ <;> rfl
  | t :: ts, us, ns => by
    rw [List.cons_append, holdL, holdL]
    rcases holdT most t ns with ⟨_ | i, ns'⟩
    · rfl
    · simp only
      rw [holdL_append most ts us ns']
      rcases holdL most ts ns' with ⟨_ | ids, n2⟩
      · rfl
      · simp only
        rcases holdL most us n2 with ⟨_ | ids', n3⟩ <;> rfl
mutual
/-- Has a term this number? -/
def Holds (ns : List Nd) : Tm → Nat → Prop
  | .mk k n nm ls ts, id => 1 ≤ id ∧ smL ls ∧ ts.length ≤ 3 ∧ ∃ d ids, ns[id - 1]? = some d ∧ d.key = keyOf k n nm ls ids ∧ HoldsL ns ts ids ∧ ∀ i ∈ ids, i < id
def HoldsL (ns : List Nd) : List Tm → List Nat → Prop
  | [], [] => True
  | t :: ts, i :: is => Holds ns t i ∧ HoldsL ns ts is
  | _, _ => False
end
theorem holds_pos {ns : List Nd} {t : Tm} {id : Nat} (h : Holds ns t id) : 1 ≤ id ∧ id ≤ ns.length := by
  cases t
  rw [Holds] at h
  obtain ⟨h1, _, _, d, ids, h2, _⟩ := h
  obtain ⟨h3, _⟩ := List.getElem?_eq_some_iff.1 h2
  omega
theorem holdsL_len {ns : List Nd} : ∀ {ts : List Tm} {ids : List Nat}, HoldsL ns ts ids → ts.length = ids.length
  | [], [], _ => rfl
  | _ :: ts, _ :: is, h => by
    rw [HoldsL] at h
    rw [List.length_cons, List.length_cons, holdsL_len h.2]
  | [], _ :: _, h => by simp [HoldsL] at h
  | _ :: _, [], h => by simp [HoldsL] at h
theorem holdsL_mem {ns : List Nd} : ∀ {ts : List Tm} {ids : List Nat}, HoldsL ns ts ids → ∀ i ∈ ids, ∃ t ∈ ts, Holds ns t i
  | [], [], _, i, hi => by cases hi
  | t :: ts, a :: is, h, i, hi => by
    rw [HoldsL] at h
    rcases List.mem_cons.1 hi with rfl | hi
    · exact ⟨t, by simp, h.1⟩
    · obtain ⟨u, h1, h2⟩ := holdsL_mem h.2 i hi
      exact ⟨u, by simp [h1], h2⟩
  | [], _ :: _, h, _, _ => by simp [HoldsL] at h
  | _ :: _, [], h, _, _ => by simp [HoldsL] at h
theorem holdsL_get {ns : List Nd} : ∀ {ts : List Tm} {ids : List Nat}, HoldsL ns ts ids → ∀ (j : Nat) (h1 : j < ts.length) (h2 : j < ids.length), Holds ns ts[j] ids[j]
  | [], [], _, j, h1, _ => absurd h1 (Nat.not_lt_zero _)
  | t :: ts, a :: is, h, 0, _, _ => by rw [HoldsL] at h; exact h.1
  | t :: ts, a :: is, h, j + 1, h1, h2 => by
    rw [HoldsL] at h
    exact holdsL_get h.2 j (by simpa using h1) (by simpa using h2)
  | [], _ :: _, h, _, _, _ => by simp [HoldsL] at h
  | _ :: _, [], h, _, _, _ => by simp [HoldsL] at h
mutual
theorem holds_more {ns : List Nd} (m : List Nd) : ∀ (t : Tm) (id : Nat), Holds ns t id → Holds (ns ++ m) t id
  | .mk k n nm ls ts, id, h => by
    rw [Holds] at h ⊢
    obtain ⟨h1, h2, h3, d, ids, h4, h5, h6, h7⟩ := h
    refine ⟨h1, h2, h3, d, ids, ?_, h5, holdsL_more m ts ids h6, h7⟩
    rw [List.getElem?_append_left (List.getElem?_eq_some_iff.1 h4).1]
    exact h4
theorem holdsL_more {ns : List Nd} (m : List Nd) : ∀ (ts : List Tm) (ids : List Nat), HoldsL ns ts ids → HoldsL (ns ++ m) ts ids
  | [], [], _ => by rw [HoldsL]; trivial
  | t :: ts, i :: is, h => by
    rw [HoldsL] at h ⊢
    exact ⟨holds_more m t i h.1, holdsL_more m ts is h.2⟩
  | [], _ :: _, h => by simp [HoldsL] at h
  | _ :: _, [], h => by simp [HoldsL] at h
end
theorem keyOf_ids {k n k' n' : Int} {nm nm' : ByteArray} {ls ls' : List Lv} {ids ids' : List Nat} (h : keyOf k n nm ls ids = keyOf k' n' nm' ls' ids') (h0 : ∀ i ∈ ids, 1 ≤ i) (h0' : ∀ i ∈ ids', 1 ≤ i) (hl : ids.length ≤ 3) (hl' : ids'.length ≤ 3) : k = k' ∧ n = n' ∧ nm = nm' ∧ lvB ls = lvB ls' ∧ ids = ids' := by
  unfold keyOf at h
  injection h with e1 e2 e3 e4 e5 e6 e7
  refine ⟨e1, e2, e3, e4, ?_⟩
  match ids, ids', hl, hl' with
  | [], [], _, _ => rfl
  | [], x :: _, _, _ => have := h0' x (by simp); simp at e5; omega
  | x :: _, [], _, _ => have := h0 x (by simp); simp at e5; omega
  | [x], [y], _, _ => simp at e5; rw [e5]
  | [x], y :: z :: _, _, _ => have := h0' z (by simp); simp at e6; omega
  | x :: z :: _, [y], _, _ => have := h0 z (by simp); simp at e6; omega
  | [x, y], [x', y'], _, _ => simp at e5 e6; rw [e5, e6]
  | [x, y], x' :: y' :: z :: _, _, _ => have := h0' z (by simp); simp at e7; omega
  | x :: y :: z :: _, [x', y'], _, _ => have := h0 z (by simp); simp at e7; omega
  | [x, y, z], [x', y', z'], _, _ => simp at e5 e6 e7; rw [e5, e6, e7]
  | _ :: _ :: _ :: _ :: _, _, h, _ => simp at h
  | _, _ :: _ :: _ :: _ :: _, _, h => simp at h
theorem holdsL_pos {ns : List Nd} {ts : List Tm} {ids : List Nat} (h : HoldsL ns ts ids) : ∀ i ∈ ids, 1 ≤ i := fun i hi => by
  obtain ⟨t, _, h2⟩ := holdsL_mem h i hi
  exact (holds_pos h2).1
mutual
/-- A number has one term. -/
theorem holds_one {ns : List Nd} : ∀ (t u : Tm) (id : Nat), Holds ns t id → Holds ns u id → t = u
  | .mk k n nm ls ts, .mk k' n' nm' ls' ts', id, h, h' => by
    rw [Holds] at h h'
    obtain ⟨h1, h2, h3, d, ids, h4, h5, h6, h7⟩ := h
    obtain ⟨g1, g2, g3, d', ids', g4, g5, g6, g7⟩ := h'
    rw [h4] at g4
    cases g4
    rw [h5] at g5
    obtain ⟨e1, e2, e3, e4, e5⟩ := keyOf_ids g5 (holdsL_pos h6) (holdsL_pos g6) (by rw [← holdsL_len h6]; exact h3) (by rw [← holdsL_len g6]; exact g3)
    subst e5
    rw [e1, e2, e3, lvB_inj h2 g2 e4, holdsL_one ts ts' ids h6 g6]
theorem holdsL_one {ns : List Nd} : ∀ (ts us : List Tm) (ids : List Nat), HoldsL ns ts ids → HoldsL ns us ids → ts = us
  | [], [], _, _, _ => rfl
  | t :: ts, u :: us, i :: is, h, h' => by
    rw [HoldsL] at h h'
    rw [holds_one t u i h.1 h'.1, holdsL_one ts us is h.2 h'.2]
  | _ :: _, _ :: _, [], h, _ => by simp [HoldsL] at h
  | [], _ :: us, [], _, h' => by simp [HoldsL] at h'
  | [], _ :: us, _ :: _, h, _ => by simp [HoldsL] at h
  | _ :: ts, [], [], h, _ => by simp [HoldsL] at h
  | _ :: ts, [], _ :: _, _, h' => by simp [HoldsL] at h'
end
/-- What is held: no key twice, each node a term's that C holds of. -/
structure Inv (C : Tm → Prop) (ns : List Nd) : Prop where
  once : ∀ i d, ns[i]? = some d → num ns d.key = i + 1
  each : ∀ i, i < ns.length → ∃ u, Holds ns u (i + 1) ∧ C u
theorem inv_nil (C : Tm → Prop) : Inv C [] := ⟨fun i d h => by simp at h, fun i h => absurd h (Nat.not_lt_zero _)⟩
theorem Inv.weak {C C' : Tm → Prop} {ns : List Nd} (h : Inv C ns) (hc : ∀ u, C u → C' u) : Inv C' ns := ⟨h.once, fun i hi => by
  obtain ⟨u, h1, h2⟩ := h.each i hi
  exact ⟨u, h1, hc u h2⟩⟩
theorem numT_more {most : Nat} {ns : List Nd} {x : Ky} : ∃ m, (numT most ns x).2 = ns ++ m ∧ m.length ≤ 1 := by
  unfold numT
  split
  · exact ⟨[], by simp, by simp⟩
  · split
    · exact ⟨[], by simp, by simp⟩
    · exact ⟨[_], rfl, by simp⟩
theorem inv_snoc {C : Tm → Prop} {ns : List Nd} (h : Inv C ns) {k n : Int} {nm : ByteArray} {ls : List Lv} {ts : List Tm} {ids : List Nat} (lo : Int) (h0 : num ns (keyOf k n nm ls ids) = 0) (hts : HoldsL ns ts ids) (hs : smL ls) (h3 : ts.length ≤ 3) (hc : C (.mk k n nm ls ts)) :
    Inv C (ns ++ [⟨keyOf k n nm ls ids, lo⟩]) ∧ Holds (ns ++ [⟨keyOf k n nm ls ids, lo⟩]) (.mk k n nm ls ts) (ns.length + 1) := by
  have hh : Holds (ns ++ [⟨keyOf k n nm ls ids, lo⟩]) (.mk k n nm ls ts) (ns.length + 1) := by
    rw [Holds]
    refine ⟨by omega, hs, h3, ⟨keyOf k n nm ls ids, lo⟩, ids, ?_, rfl, holdsL_more _ _ _ hts, fun i hi => ?_⟩
    · rw [Nat.add_sub_cancel, List.getElem?_append_right (Nat.le_refl _), Nat.sub_self]; rfl
    · obtain ⟨t, _, h2⟩ := holdsL_mem hts i hi
      have := (holds_pos h2).2
      omega
  refine ⟨⟨fun i d hi => ?_, fun i hi => ?_⟩, hh⟩
  · by_cases hlt : i < ns.length
    · rw [List.getElem?_append_left hlt] at hi
      have := h.once i d hi
      rw [num_snoc, if_pos (by omega), this]
    · obtain ⟨h1, _⟩ := List.getElem?_eq_some_iff.1 hi
      rw [List.length_append, List.length_singleton] at h1
      obtain rfl : i = ns.length := by omega
      rw [List.getElem?_append_right (Nat.le_refl _), Nat.sub_self] at hi
      cases hi
      rw [num_snoc, if_neg (fun h => h h0), if_pos rfl]
  · by_cases hlt : i < ns.length
    · obtain ⟨u, h1, h2⟩ := h.each i hlt
      exact ⟨u, holds_more _ _ _ h1, h2⟩
    · rw [List.length_append, List.length_singleton] at hi
      obtain rfl : i = ns.length := by omega
      exact ⟨_, hh, hc⟩
/-- What C asks: levels that have room in bytes, at most three arguments, which C holds of, too. -/
def Downs (C : Tm → Prop) : Prop := ∀ k n nm ls ts, C (.mk k n nm ls ts) → smL ls ∧ ts.length ≤ 3 ∧ ∀ a ∈ ts, C a
/-- What a hold comes to. -/
structure Held (C : Tm → Prop) (most : Nat) (ns ns' : List Nd) (N : Nat) : Prop where
  inv : Inv C ns'
  more : ∃ m, ns' = ns ++ m ∧ m.length ≤ N
  room : ns'.length ≤ max most ns.length
mutual
theorem holdT_is {C : Tm → Prop} (hC : Downs C) (most : Nat) : ∀ (t : Tm) (ns : List Nd), C t → Inv C ns → Held C most ns (holdT most t ns).2 (tnodes t) ∧ ((holdT most t ns).1 ≠ 0 → Holds (holdT most t ns).2 t (holdT most t ns).1) ∧ ((holdT most t ns).1 = 0 → most ≤ (holdT most t ns).2.length)
  | .mk k n nm ls ts, ns, hc, hi => by
    obtain ⟨hs, h3, hts⟩ := hC _ _ _ _ _ hc
    obtain ⟨⟨h1, h2, h2r⟩, h4, h5⟩ := holdL_is hC most ts ns hts hi
    rw [holdT]
    generalize hq : holdL most ts ns = q at *
    obtain ⟨_ | ids, ns'⟩ := q
    · simp only at *
      obtain ⟨m, e, hm⟩ := h2
      exact ⟨⟨h1, ⟨m, e, by rw [tnodes]; omega⟩, h2r⟩, fun h => absurd rfl h, fun _ => h5 trivial⟩
    · simp only at *
      have hL := h4 ids rfl
      obtain ⟨m, e, hm⟩ := h2
      unfold numT
      by_cases h0 : num ns' (keyOf k n nm ls ids) = 0
      · rw [if_neg (by omega)]
        by_cases hr : most ≤ ns'.length
        · rw [if_pos hr]
          exact ⟨⟨h1, ⟨m, e, by rw [tnodes]; omega⟩, h2r⟩, fun h => absurd rfl h, fun _ => hr⟩
        · rw [if_neg hr]
          obtain ⟨g1, g2⟩ := inv_snoc h1 (needs ns' (keyOf k n nm ls ids)) h0 hL hs h3 hc
          refine ⟨⟨g1, ⟨m ++ [⟨keyOf k n nm ls ids, needs ns' (keyOf k n nm ls ids)⟩], by simp only [e, List.append_assoc], by rw [tnodes, List.length_append, List.length_singleton]; omega⟩, ?_⟩, fun _ => g2, fun h => absurd h (Nat.succ_ne_zero _)⟩
          simp only [List.length_append, List.length_singleton]
          omega
      · rw [if_pos h0]
        refine ⟨⟨h1, ⟨m, e, by rw [tnodes]; omega⟩, h2r⟩, fun _ => ?_, fun h => absurd h h0⟩
        simp only
        obtain ⟨d, g1, g2⟩ := num_get rfl h0
        have hle := num_le rfl h0
        obtain ⟨u, g3, g4⟩ := h1.each (num ns' (keyOf k n nm ls ids) - 1) (by omega)
        rw [show num ns' (keyOf k n nm ls ids) - 1 + 1 = num ns' (keyOf k n nm ls ids) by omega] at g3
        have g3' := g3
        cases u with
        | mk k' n' nm' ls' ts' =>
        rw [Holds] at g3
        obtain ⟨a1, a2, a3, d', ids', a4, a5, a6, a7⟩ := g3
        rw [g1] at a4
        cases a4
        rw [g2] at a5
        obtain ⟨e1, e2, e3, e4, e5⟩ := keyOf_ids a5 (holdsL_pos hL) (holdsL_pos a6) (by rw [← holdsL_len hL]; exact h3) (by rw [← holdsL_len a6]; exact a3)
        subst e5
        have e6 := lvB_inj hs a2 e4
        have e7 := holdsL_one ts ts' ids hL a6
        subst e1 e2 e3 e6 e7
        exact g3'
theorem holdL_is {C : Tm → Prop} (hC : Downs C) (most : Nat) : ∀ (ts : List Tm) (ns : List Nd), (∀ a ∈ ts, C a) → Inv C ns → Held C most ns (holdL most ts ns).2 (tnodesL ts) ∧ (∀ ids, (holdL most ts ns).1 = some ids → HoldsL (holdL most ts ns).2 ts ids) ∧ ((holdL most ts ns).1 = none → most ≤ (holdL most ts ns).2.length)
  | [], ns, _, hi => by
    rw [holdL]
    exact ⟨⟨hi, ⟨[], by simp, by simp⟩, by simp only; omega⟩, fun ids h => by cases h; rw [HoldsL]; trivial, fun h => by cases h⟩
  | t :: ts, ns, hc, hi => by
    obtain ⟨⟨h1, h2, h2r⟩, h3, h4⟩ := holdT_is hC most t ns (hc t (by simp)) hi
    rw [holdL]
    generalize hq : holdT most t ns = q at *
    obtain ⟨_ | i, ns'⟩ := q
    · simp only at *
      obtain ⟨m, e, hm⟩ := h2
      exact ⟨⟨h1, ⟨m, e, by rw [tnodesL]; omega⟩, h2r⟩, fun ids h => (nomatch h), fun _ => h4 trivial⟩
    · simp only at *
      obtain ⟨⟨g1, g2, g2r⟩, g3, g4⟩ := holdL_is hC most ts ns' (fun a ha => hc a (by simp [ha])) h1
      have hh := h3 (Nat.succ_ne_zero _)
      obtain ⟨m, e, hm⟩ := h2
      generalize hp : holdL most ts ns' = p at *
      obtain ⟨_ | ids, ns''⟩ := p
      · simp only at *
        obtain ⟨m', e', hm'⟩ := g2
        exact ⟨⟨g1, ⟨m ++ m', by rw [e', e, List.append_assoc], by rw [tnodesL, List.length_append]; omega⟩, by omega⟩, fun ids h => (nomatch h), fun _ => g4 trivial⟩
      · simp only at *
        obtain ⟨m', e', hm'⟩ := g2
        refine ⟨⟨g1, ⟨m ++ m', by rw [e', e, List.append_assoc], by rw [tnodesL, List.length_append]; omega⟩, by omega⟩, fun js h => ?_, fun h => by cases h⟩
        cases h
        rw [HoldsL]
        refine ⟨?_, g3 ids rfl⟩
        rw [e']
        exact holds_more _ _ _ hh
end
end Arn
end Go.Proofs.YtlijdgamobpndaaDoor
