/-
  Plain facts about levels: as trees of any shape (what lies in memory), as levels that are right, their values, and that three numbers for each parameter are enough to hold two of them against each other.
  Conditions: none.
-/
import Derived.Test.YteghldgopidhhaaTxt
namespace Go.Proofs.Yteghldgopidhhaa
namespace Lvl

/-- What lies in memory: a kind, a number, arguments. -/
inductive Lv where
  | mk (k n : Int) (args : List Lv)
mutual
def nodes : Lv → Nat
  | .mk _ _ ts => 1 + nodesL ts
def nodesL : List Lv → Nat
  | [] => 0
  | a :: ts => nodes a + nodesL ts
end
theorem nodes_pos (t : Lv) : 1 ≤ nodes t := by
  cases t
  rw [nodes]; omega
theorem nodes_mem {t : Lv} : ∀ {l : List Lv}, t ∈ l → nodes t ≤ nodesL l
  | a :: l, h => by
    rw [nodesL]
    rcases List.mem_cons.1 h with rfl | h
    · omega
    · have := nodes_mem h
      omega
theorem nodesL_append : ∀ (l k : List Lv), nodesL (l ++ k) = nodesL l + nodesL k
  | [], k => by rw [List.nil_append, nodesL]; omega
  | a :: l, k => by rw [List.cons_append, nodesL, nodesL, nodesL_append l k]; omega

/-- A right level. -/
inductive L where
  | num (n : Nat)
  | par (i : Nat)
  | succ (a : L)
  | max (a b : L)
  | imax (a b : L)
def size : L → Nat
  | .num _ => 1
  | .par _ => 1
  | .succ a => 1 + size a
  | .max a b => 1 + (size a + size b)
  | .imax a b => 1 + (size a + size b)
/-- Its value, by the parameters'. -/
def val (f : Nat → Nat) : L → Nat
  | .num n => n
  | .par i => f i
  | .succ a => val f a + 1
  | .max a b => max (val f a) (val f b)
  | .imax a b => if val f b = 0 then 0 else max (val f a) (val f b)
/-- Numbers up to 100, and m parameters. -/
def Ok (m : Nat) : L → Prop
  | .num n => n ≤ 100
  | .par i => i < m
  | .succ a => Ok m a
  | .max a b => Ok m a ∧ Ok m b
  | .imax a b => Ok m a ∧ Ok m b
/-- The tree is this right level, for m parameters. -/
inductive IsL (m : Int) : Lv → L → Prop where
  | num (n : Nat) : n ≤ 100 → IsL m (.mk 1 n []) (.num n)
  | par (i : Nat) : (i : Int) < m → IsL m (.mk 2 i []) (.par i)
  | succ {a : Lv} {x : L} : IsL m a x → IsL m (.mk 3 0 [a]) (.succ x)
  | max {a b : Lv} {x y : L} : IsL m a x → IsL m b y → IsL m (.mk 4 0 [a, b]) (.max x y)
  | imax {a b : Lv} {x y : L} : IsL m a x → IsL m b y → IsL m (.mk 5 0 [a, b]) (.imax x y)
theorem isL_nodes {m : Int} {t : Lv} {x : L} (h : IsL m t x) : nodes t = size x := by
  induction h with
  | num n _ => rfl
  | par i _ => rfl
  | succ _ ih => simp only [nodes, nodesL, size, ih]; omega
  | max _ _ ih1 ih2 => simp only [nodes, nodesL, size, ih1, ih2]; omega
  | imax _ _ ih1 ih2 => simp only [nodes, nodesL, size, ih1, ih2]; omega
theorem isL_ok {m : Nat} {t : Lv} {x : L} (h : IsL (m : Int) t x) : Ok m x := by
  induction h with
  | num n h => exact h
  | par i h => show i < m; omega
  | succ _ ih => exact ih
  | max _ _ ih1 ih2 => exact ⟨ih1, ih2⟩
  | imax _ _ ih1 ih2 => exact ⟨ih1, ih2⟩
theorem isL_mono {m m' : Int} {t : Lv} {x : L} (h : IsL m t x) (hm : m ≤ m') : IsL m' t x := by
  induction h with
  | num n h => exact .num n h
  | par i h => exact .par i (by omega)
  | succ _ ih => exact .succ ih
  | max _ _ ih1 ih2 => exact .max ih1 ih2
  | imax _ _ ih1 ih2 => exact .imax ih1 ih2
theorem isL_one {m m' : Int} {t : Lv} {x y : L} (h : IsL m t x) (h' : IsL m' t y) : x = y := by
  induction h generalizing y with
  | num n _ => cases h'; rfl
  | par i _ => cases h'; rfl
  | succ _ ih => cases h' with | succ h1 => rw [ih h1]
  | max _ _ ih1 ih2 => cases h' with | max h1 h2 => rw [ih1 h1, ih2 h2]
  | imax _ _ ih1 ih2 => cases h' with | imax h1 h2 => rw [ih1 h1, ih2 h2]
mutual
/-- Is each node right? -/
def okB (m : Int) : Lv → Bool
  | .mk k n ts => if k = 1 then decide (0 ≤ n) && decide (n ≤ 100) && decide (ts.length = 0) else if k = 2 then decide (0 ≤ n) && decide (n < m) && decide (ts.length = 0)
    else if k = 3 then decide (n = 0) && decide (ts.length = 1) && okL m ts else if k = 4 ∨ k = 5 then decide (n = 0) && decide (ts.length = 2) && okL m ts else false
def okL (m : Int) : List Lv → Bool
  | [] => true
  | a :: l => okB m a && okL m l
end
theorem okL_all (m : Int) : ∀ l : List Lv, okL m l = l.all (okB m)
  | [] => by rw [okL]; rfl
  | a :: l => by rw [okL, okL_all m l, List.all_cons]
theorem okB_of {m : Int} {t : Lv} {x : L} (h : IsL m t x) : okB m t = true := by
  induction h with
  | num n h => simp [okB]; omega
  | par i h => simp [okB]; omega
  | succ _ ih => simp [okB, okL, ih]
  | max _ _ ih1 ih2 => simp [okB, okL, ih1, ih2]
  | imax _ _ ih1 ih2 => simp [okB, okL, ih1, ih2]
mutual
theorem okB_is {m : Int} : ∀ (t : Lv), okB m t = true → ∃ x, IsL m t x
  | .mk k n ts, h => by
    rw [okB] at h
    by_cases h1 : k = 1
    · subst h1
      simp at h
      obtain ⟨⟨h2, h3⟩, rfl⟩ := h
      obtain ⟨i, rfl⟩ := Int.eq_ofNat_of_zero_le h2
      exact ⟨_, .num i (by omega)⟩
    · rw [if_neg h1] at h
      by_cases h2 : k = 2
      · subst h2
        simp at h
        obtain ⟨⟨h2, h3⟩, rfl⟩ := h
        obtain ⟨i, rfl⟩ := Int.eq_ofNat_of_zero_le h2
        exact ⟨_, .par i h3⟩
      · rw [if_neg h2] at h
        by_cases h3 : k = 3
        · subst h3
          simp at h
          obtain ⟨⟨rfl, h4⟩, h5⟩ := h
          have hy := okL_is ts h5
          match ts, h4, hy with
          | [a], _, hy =>
            obtain ⟨x, ha⟩ := hy a (by simp)
            exact ⟨_, .succ ha⟩
        · rw [if_neg h3] at h
          by_cases h4 : k = 4 ∨ k = 5
          · rw [if_pos h4] at h
            simp at h
            obtain ⟨⟨rfl, h5⟩, h6⟩ := h
            have hy := okL_is ts h6
            match ts, h5, hy with
            | [a, b], _, hy =>
              obtain ⟨x, ha⟩ := hy a (by simp)
              obtain ⟨y, hb⟩ := hy b (by simp)
              rcases h4 with rfl | rfl
              · exact ⟨_, .max ha hb⟩
              · exact ⟨_, .imax ha hb⟩
          · rw [if_neg h4] at h
            cases h
theorem okL_is {m : Int} : ∀ (l : List Lv), okL m l = true → ∀ b ∈ l, ∃ x, IsL m b x
  | [], _, _, hb => by cases hb
  | a :: l, h, b, hb => by
    rw [okL, Bool.and_eq_true] at h
    have h1 := okB_is a h.1
    have h2 := okL_is l h.2
    rcases List.mem_cons.1 hb with e | hb
    · rw [e]; exact h1
    · exact h2 b hb
end
theorem okB_iff {m : Int} {t : Lv} : okB m t = true ↔ ∃ x, IsL m t x := ⟨okB_is t, fun ⟨_, h⟩ => okB_of h⟩
theorem size_pos (x : L) : 1 ≤ size x := by cases x <;> simp only [size] <;> omega

/-- Which parameters are above 0. -/
def Pat (s : Nat → Bool) (f : Nat → Nat) : Prop := ∀ i, f i = 0 ↔ s i = false
theorem val_zero {s : Nat → Bool} {f g : Nat → Nat} (hf : Pat s f) (hg : Pat s g) (x : L) : val f x = 0 ↔ val g x = 0 := by
  induction x with
  | num n => exact Iff.rfl
  | par i => exact (hf i).trans (hg i).symm
  | succ a _ => simp [val]
  | max a b ih1 ih2 => simp only [val]; omega
  | imax a b ih1 ih2 =>
    simp only [val]
    by_cases h : val f b = 0
    · rw [if_pos h, if_pos (ih2.1 h)]
    · rw [if_neg h, if_neg (fun e => h (ih2.2 e))]
      omega
/-- Its form where just these parameters are above 0: the greatest of a number and of parameters with something added. -/
def Form (s : Nat → Bool) (x : L) (c : Nat) (d : Nat → Option Nat) : Prop :=
  c ≤ 100 + size x ∧ (∀ i e, d i = some e → s i = true ∧ e ≤ size x) ∧
    ∀ f, Pat s f → c ≤ val f x ∧ (∀ i e, d i = some e → f i + e ≤ val f x) ∧ (val f x = c ∨ ∃ i e, d i = some e ∧ val f x = f i + e)
def joinO : Option Nat → Option Nat → Option Nat
  | none, y => y
  | x, none => x
  | some a, some b => some (max a b)
theorem joinO_some {x y : Option Nat} {e : Nat} (h : joinO x y = some e) : (x = some e ∨ y = some e) ∧ (∀ a, x = some a → a ≤ e) ∧ (∀ b, y = some b → b ≤ e) := by
  cases x with
  | none =>
    simp only [joinO] at h
    exact ⟨.inr h, fun _ h' => (by cases h'), fun b h' => by rw [h] at h'; cases h'; exact Nat.le_refl _⟩
  | some a =>
    cases y with
    | none =>
      simp only [joinO] at h
      exact ⟨.inl h, fun _ h' => by rw [h] at h'; cases h'; exact Nat.le_refl _, fun _ h' => (by cases h')⟩
    | some b =>
      simp only [joinO, Option.some.injEq] at h
      subst h
      refine ⟨?_, fun _ h' => by cases h'; omega, fun _ h' => by cases h'; omega⟩
      by_cases hab : a ≤ b
      · exact .inr (by rw [Nat.max_def, if_pos hab])
      · exact .inl (by rw [Nat.max_def, if_neg hab])
theorem joinO_left {x y : Option Nat} {a : Nat} (h : x = some a) : ∃ e, joinO x y = some e ∧ a ≤ e := by
  subst h
  cases y with
  | none => exact ⟨a, rfl, Nat.le_refl _⟩
  | some b => exact ⟨_, rfl, Nat.le_max_left _ _⟩
theorem joinO_right {x y : Option Nat} {b : Nat} (h : y = some b) : ∃ e, joinO x y = some e ∧ b ≤ e := by
  subst h
  cases x with
  | none => exact ⟨b, rfl, Nat.le_refl _⟩
  | some a => exact ⟨_, rfl, Nat.le_max_right _ _⟩
/-- The greater of two. -/
theorem form_join {s : Nat → Bool} {a b : L} {c1 c2 : Nat} {d1 d2 : Nat → Option Nat} (h1 : Form s a c1 d1) (h2 : Form s b c2 d2) (x : L) (hx : size x = 1 + (size a + size b)) (hv : ∀ f, Pat s f → val f x = max (val f a) (val f b)) :
    Form s x (max c1 c2) (fun i => joinO (d1 i) (d2 i)) := by
  obtain ⟨p1, q1, r1⟩ := h1
  obtain ⟨p2, q2, r2⟩ := h2
  refine ⟨by omega, fun i e h => ?_, fun f hf => ?_⟩
  · obtain ⟨h3, _, _⟩ := joinO_some h
    rcases h3 with h3 | h3
    · have := q1 i e h3
      exact ⟨this.1, by omega⟩
    · have := q2 i e h3
      exact ⟨this.1, by omega⟩
  · obtain ⟨u1, v1, w1⟩ := r1 f hf
    obtain ⟨u2, v2, w2⟩ := r2 f hf
    rw [hv f hf]
    refine ⟨by omega, fun i e h => ?_, ?_⟩
    · obtain ⟨h3, _, _⟩ := joinO_some h
      rcases h3 with h3 | h3
      · have := v1 i e h3; omega
      · have := v2 i e h3; omega
    · by_cases hle : val f a ≤ val f b
      · have e0 : max (val f a) (val f b) = val f b := by omega
        rw [e0]
        rcases w2 with w2 | ⟨i, e, h3, h4⟩
        · exact .inl (by omega)
        · obtain ⟨e', h5, h6⟩ := joinO_right (x := d1 i) h3
          refine .inr ⟨i, e', h5, ?_⟩
          obtain ⟨h7, _, _⟩ := joinO_some h5
          rcases h7 with h7 | h7
          · have := v1 i e' h7; omega
          · have := v2 i e' h7; omega
      · have e0 : max (val f a) (val f b) = val f a := by omega
        rw [e0]
        rcases w1 with w1 | ⟨i, e, h3, h4⟩
        · exact .inl (by omega)
        · obtain ⟨e', h5, h6⟩ := joinO_left (y := d2 i) h3
          refine .inr ⟨i, e', h5, ?_⟩
          obtain ⟨h7, _, _⟩ := joinO_some h5
          rcases h7 with h7 | h7
          · have := v1 i e' h7; omega
          · have := v2 i e' h7; omega
/-- A pattern's own numbers: 0, or 1. -/
def ones (s : Nat → Bool) : Nat → Nat := fun i => if s i then 1 else 0
theorem ones_pat (s : Nat → Bool) : Pat s (ones s) := fun i => by
  unfold ones
  cases s i <;> simp
theorem form_ex {m : Nat} (s : Nat → Bool) : ∀ (x : L), Ok m x → ∃ c d, Form s x c d
  | .num n, h => ⟨n, fun _ => none, by simp only [size]; have : n ≤ 100 := h; omega, (fun _ _ h => by cases h), fun f _ => ⟨Nat.le_refl _, (fun _ _ h => by cases h), .inl rfl⟩⟩
  | .par i, _ => by
    cases hs : s i
    · exact ⟨0, fun _ => none, by omega, (fun _ _ h => by cases h), fun f hf => ⟨Nat.zero_le _, (fun _ _ h => by cases h), .inl ((hf i).2 hs)⟩⟩
    · refine ⟨0, fun j => if j = i then some 0 else none, by omega, fun j e h => ?_, fun f hf => ⟨Nat.zero_le _, fun j e h => ?_, .inr ⟨i, 0, by simp, rfl⟩⟩⟩
      · by_cases hj : j = i
        · subst hj
          simp at h
          subst h
          exact ⟨hs, Nat.zero_le _⟩
        · simp [hj] at h
      · by_cases hj : j = i
        · subst hj
          simp at h
          subst h
          exact Nat.le_refl _
        · simp [hj] at h
  | .succ a, h => by
    obtain ⟨c, d, p, q, r⟩ := form_ex s a h
    refine ⟨c + 1, fun i => (d i).map (· + 1), by simp only [size]; omega, fun i e h => ?_, fun f hf => ?_⟩
    · obtain ⟨e', h1, rfl⟩ := Option.map_eq_some_iff.1 h
      have := q i e' h1
      exact ⟨this.1, by simp only [size]; omega⟩
    · obtain ⟨u, v, w⟩ := r f hf
      refine ⟨by simp only [val]; omega, fun i e h => ?_, ?_⟩
      · obtain ⟨e', h1, rfl⟩ := Option.map_eq_some_iff.1 h
        have := v i e' h1
        simp only [val]; omega
      · rcases w with w | ⟨i, e, h1, h2⟩
        · exact .inl (by simp only [val]; omega)
        · exact .inr ⟨i, e + 1, by simp [h1], by simp only [val]; omega⟩
  | .max a b, h => by
    obtain ⟨c1, d1, h1⟩ := form_ex s a h.1
    obtain ⟨c2, d2, h2⟩ := form_ex s b h.2
    exact ⟨_, _, form_join h1 h2 (.max a b) rfl fun _ _ => rfl⟩
  | .imax a b, h => by
    obtain ⟨c1, d1, h1⟩ := form_ex s a h.1
    obtain ⟨c2, d2, h2⟩ := form_ex s b h.2
    by_cases hz : val (ones s) b = 0
    · refine ⟨0, fun _ => none, by omega, (fun _ _ h => by cases h), fun f hf => ⟨Nat.zero_le _, (fun _ _ h => by cases h), .inl ?_⟩⟩
      have := (val_zero hf (ones_pat s) b).2 hz
      simp only [val]
      rw [if_pos this]
    · refine ⟨_, _, form_join h1 h2 (.imax a b) rfl fun f hf => ?_⟩
      have : ¬ val f b = 0 := fun e => hz ((val_zero hf (ones_pat s) b).1 e)
      simp only [val]
      rw [if_neg this]

/-- At most, whatever the parameters' numbers are; at most, where each is 0, 1 or 1000. -/
def Leq (x y : L) : Prop := ∀ f, val f x ≤ val f y
def LeqS (x y : L) : Prop := ∀ f : Nat → Nat, (∀ i, f i = 0 ∨ f i = 1 ∨ f i = 1000) → val f x ≤ val f y
/-- Three numbers for each parameter are enough. -/
theorem leq_small {m m' : Nat} {x y : L} (hx : Ok m x) (hy : Ok m' y) (ny : size y ≤ 500) (h : LeqS x y) : Leq x y := by
  intro f
  let s : Nat → Bool := fun i => decide (f i ≠ 0)
  have hf : Pat s f := fun i => by simp [s]
  obtain ⟨c1, d1, p1, q1, r1⟩ := form_ex s x hx
  obtain ⟨c2, d2, p2, q2, r2⟩ := form_ex s y hy
  obtain ⟨u1, v1, w1⟩ := r1 f hf
  obtain ⟨u2, v2, w2⟩ := r2 f hf
  have pos : ∀ i, s i = true → 1 ≤ f i := fun i hi => by
    have : f i ≠ 0 := of_decide_eq_true hi
    omega
  rcases w1 with w1 | ⟨i, e, h1, h2⟩
  · obtain ⟨a1, _, _⟩ := r1 (ones s) (ones_pat s)
    obtain ⟨_, _, a2⟩ := r2 (ones s) (ones_pat s)
    have hs := h (ones s) (fun i => by unfold ones; cases s i <;> simp)
    rcases a2 with a2 | ⟨j, e, h3, h4⟩
    · omega
    · have h5 := v2 j e h3
      have h6 := pos j (q2 j e h3).1
      have h7 : ones s j = 1 := by unfold ones; rw [(q2 j e h3).1]; rfl
      omega
  · let g : Nat → Nat := fun j => if j = i then 1000 else ones s j
    have hi := (q1 i e h1).1
    have hg : Pat s g := fun j => by
      show (if j = i then 1000 else ones s j) = 0 ↔ _
      by_cases hj : j = i
      · subst hj
        rw [if_pos rfl, hi]; simp
      · rw [if_neg hj]; exact ones_pat s j
    obtain ⟨_, b1, _⟩ := r1 g hg
    obtain ⟨_, _, b2⟩ := r2 g hg
    have hs := h g (fun j => by
      show (if j = i then 1000 else ones s j) = 0 ∨ (if j = i then 1000 else ones s j) = 1 ∨ (if j = i then 1000 else ones s j) = 1000
      by_cases hj : j = i
      · rw [if_pos hj]; exact .inr (.inr rfl)
      · rw [if_neg hj]; unfold ones; cases s j <;> simp)
    have h3 := b1 i e h1
    have gi : g i = 1000 := by show (if i = i then 1000 else ones s i) = 1000; rw [if_pos rfl]
    rcases b2 with b2 | ⟨j, e', h4, h5⟩
    · omega
    · have hj : j = i := by
        by_cases hj : j = i
        · exact hj
        · have gj : g j ≤ 1 := by
            show (if j = i then 1000 else ones s j) ≤ 1
            rw [if_neg hj]; unfold ones; cases s j <;> simp
          have := (q2 j e' h4).2
          omega
      subst hj
      have := v2 j e' h4
      omega
theorem leq_iff {m m' : Nat} {x y : L} (hx : Ok m x) (hy : Ok m' y) (ny : size y ≤ 500) : Leq x y ↔ LeqS x y := ⟨fun h f _ => h f, leq_small hx hy ny⟩
theorem leq_refl (x : L) : Leq x x := fun _ => Nat.le_refl _
theorem leq_trans {x y z : L} (h : Leq x y) (k : Leq y z) : Leq x z := fun f => Nat.le_trans (h f) (k f)
end Lvl
end Go.Proofs.Yteghldgopidhhaa
