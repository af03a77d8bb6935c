import Derived.Test.YtbkdecgfiiajnaaGreatDoorRows
import Derived.WalkKit
import Derived.WalkSpells
import Derived.WalkLawsBesides
import Derived.Deep.QuietTactic
import Derived.BigQuiet
import Derived.Deep.Draws
import Derived.Lib.Hide
/-
  Lists of texts in memory.
  Conditions: none.
-/
namespace Go.Proofs.YtbkdecgfiiajnaaGreatDoor
open Go.RowKit

/-- The list at address A holds the texts xs. -/
def Txt (w : World) (A : Option Addr) (xs : List ByteArray) : Prop :=
  xs ≠ [] → ∃ b o, A = some ⟨b, o, none⟩ ∧ b < w.heap.size ∧ ∀ j x, xs[j]? = some x → w.cell? ⟨b, o + j, none⟩ = some (.string x)

theorem Txt.below {w w' : World} {A : Option Addr} {xs : List ByteArray} (h : Txt w A xs) (hb : Below w.heap.size w w') : Txt w' A xs := fun hne => by
  obtain ⟨b, o, rfl, hlt, hc⟩ := h hne
  exact ⟨b, o, rfl, Nat.lt_of_lt_of_le hlt hb.size, fun j x hx => (hb.cell (p := ⟨b, o + j, none⟩) hlt).trans (hc j x hx)⟩
theorem Txt.at_ {w : World} {A : Option Addr} {xs : List ByteArray} (h : Txt w A xs) {k : Nat} (hk : k < xs.length) :
    ∃ b o, A = some ⟨b, o, none⟩ ∧ w.cell? ⟨b, o + k, none⟩ = some (.string xs[k]) := by
  obtain ⟨b, o, rfl, _, hc⟩ := h (by intro e; subst e; exact absurd hk (Nat.not_lt_zero _))
  exact ⟨b, o, rfl, hc k _ (List.getElem?_eq_getElem hk)⟩
theorem quietBelow (w : World) (q : Nat) : Below w.heap.size w (w.drewN q) := ⟨rfl, rfl, rfl, Nat.le_refl _, fun _ _ => rfl⟩

theorem bytes_inj {x y : ByteArray} (h : x.toList = y.toList) : x = y := by
  rw [ByteArray.toList_eq, ByteArray.toList_eq] at h
  cases x; cases y
  exact congrArg ByteArray.mk (Array.toList_inj.1 h)
theorem bytes_eqb (x y : ByteArray) : (x.toList == y.toList) = decide (x = y) := by
  by_cases h : x = y
  · subst h; simp
  · rw [decide_eq_false h, beq_eq_false_iff_ne]; exact fun e => h (bytes_inj e)

end Go.Proofs.YtbkdecgfiiajnaaGreatDoor
/-
  The contracts of the statements' own helpers over lists of texts: SameTexts returns whether two lists are one, Lengths returns at most 'most' only if the list has at most so many texts and bytes.
  Conditions: the lists lie in memory as told by 'Txt'.
-/
namespace Go.Proofs.YtbkdecgfiiajnaaGreatDoor
open Go.RowKit

/-- As far as k the two lists are one. -/
def SameTo (xs ys : List ByteArray) (k : Nat) : Prop := xs.take k = ys.take k
theorem SameTo.zero (xs ys : List ByteArray) : SameTo xs ys 0 := rfl
theorem SameTo.succ {xs ys : List ByteArray} {k : Nat} (h : SameTo xs ys k) (h1 : k < xs.length) (h2 : k < ys.length) (e : xs[k] = ys[k]) : SameTo xs ys (k + 1) := by
  unfold SameTo at h ⊢
  rw [List.take_add_one, List.take_add_one, h, List.getElem?_eq_getElem h1, List.getElem?_eq_getElem h2, e]
theorem SameTo.all {xs ys : List ByteArray} {k : Nat} (h : SameTo xs ys k) (h1 : ¬ k < xs.length) (hl : xs.length = ys.length) : xs = ys := by
  unfold SameTo at h
  rwa [List.take_of_length_le (by omega), List.take_of_length_le (by omega)] at h

theorem same_bool {xs ys : List ByteArray} (h : xs = ys) : Ending.returned (.bool true) = .returned (.bool (decide (xs = ys))) := by rw [decide_eq_true h]
theorem differ_bool {xs ys : List ByteArray} (h : xs ≠ ys) : Ending.returned (.bool false) = .returned (.bool (decide (xs = ys))) := by rw [decide_eq_false h]

set_option maxHeartbeats 400000 in
theorem sameTexts_len (A A' : Option Addr) (c c' n : Nat) (xs ys : List ByteArray) (w : World) (hx : Txt w A xs) (hy : Txt w A' ys) (hn : n ≤ 140737488355328) (Hx : Hid (xs.length = n)) (Hy : Hid (ys.length = n)) :
    Calls Tryz.prog 28 #[.slice A n c, .slice A' n c'] w fun e w' => e = .returned (.bool (decide (xs = ys))) ∧ ∃ q, w' = w.drewN q := by
  have HX := Lib.hid hx
  have HY := Lib.hid hy
  clear hx hy
  go_enter Tryz.func28, Tryz.ntmps28
  go_wp2
  go_loopw [5] (fun i wr => ∃ k : Nat, k ≤ n ∧ i = .int .i64 k ∧ SameTo xs ys k ∧ ∃ q, wr = w.drewN q) (fun i _ => n - (intOf i).toNat)
  case atStart => exact ⟨0, Nat.zero_le _, rfl, SameTo.zero _ _, 0, rfl⟩
  case round =>
    obtain ⟨k, hk, rfl, hs, q, rfl⟩ := hrel
    have HS := Lib.hid hs
    clear hs
    by_cases hlt : k < n
    · have hx1 : k < xs.length := by rw [Hx.out]; exact hlt
      have hy1 : k < ys.length := by rw [Hy.out]; exact hlt
      obtain ⟨b, o, rfl, hc⟩ := HX.out.at_ hx1
      obtain ⟨b', o', rfl, hc'⟩ := HY.out.at_ hy1
      by_cases he : xs[k] = ys[k]
      · have HS' := Lib.hid (HS.out.succ hx1 hy1 he)
        have h0 : (0 : Int) ≤ (k : Int) := by omega
        have hln : (k : Int) < (n : Int) := by omega
        generalize xs[k] = x at *
        generalize ys[k] = y at *
        subst he
        clear hx1 hy1 HS
        go_wp2
        go_quiet (fail)
        go_wp2
        go_roundw
        case rel => exact ⟨k + 1, by omega, by go_num, HS'.out, _, rfl⟩
        case measure => simp [intOf]; omega
      · have HD := Lib.hid (show xs ≠ ys by intro e; subst e; exact he rfl)
        have h0 : (0 : Int) ≤ (k : Int) := by omega
        have hln : (k : Int) < (n : Int) := by omega
        generalize xs[k] = x at *
        generalize ys[k] = y at *
        have hne : (!(x.toList == y.toList)) = true := by rw [bytes_eqb, decide_eq_false he]; rfl
        clear hx1 hy1 HS he
        go_wp2
        go_quiet (fail)
        go_wp2
        go_ret
        exact ⟨differ_bool HD.out, _, by rw [World.drewN_drewN]⟩
    · have HE := Lib.hid (HS.out.all (by rw [Hx.out]; exact hlt) (Hx.out.trans Hy.out.symm))
      go_wp2
      go_ret
      exact ⟨same_bool HE.out, q, rfl⟩

theorem sameTexts_any (A A' : Option Addr) (c c' : Nat) (xs ys : List ByteArray) (w : World) (hx : Txt w A xs) (hy : Txt w A' ys) (hlx : xs.length ≤ 140737488355328) :
    Calls Tryz.prog 28 #[.slice A xs.length c, .slice A' ys.length c'] w fun e w' => e = .returned (.bool (decide (xs = ys))) ∧ ∃ q, w' = w.drewN q := by
  by_cases hl : xs.length = ys.length
  · rw [← hl]
    exact sameTexts_len A A' c c' xs.length xs ys w hx hy hlx rfl hl.symm
  · go_enter Tryz.func28, Tryz.ntmps28
    go_wp2
    go_ret
    exact ⟨differ_bool (fun e => hl (by rw [e])), 0, rfl⟩

/-- The lengths of the first k texts, each one more. -/
def lensTo (xs : List ByteArray) (k : Nat) : Nat := ((xs.take k).map fun x => x.size + 1).sum
theorem lensTo_succ (xs : List ByteArray) (k : Nat) (h : k < xs.length) : lensTo xs (k + 1) = lensTo xs k + (1 + xs[k].size) := by
  unfold lensTo
  rw [List.take_add_one, List.getElem?_eq_getElem h, List.map_append, List.sum_append]
  simp only [Option.toList_some, List.map_cons, List.map_nil, List.sum_cons, List.sum_nil]
  omega
theorem lensTo_le (xs : List ByteArray) (k : Nat) : k ≤ xs.length → k ≤ lensTo xs k := by
  induction k with
  | zero => intro _; exact Nat.zero_le _
  | succ k ih => intro h; have := ih (by omega); rw [lensTo_succ xs k (by omega)]; omega
theorem lensTo_mem (xs : List ByteArray) (k : Nat) : k ≤ xs.length → ∀ j, j < k → ∀ h : j < xs.length, xs[j].size < lensTo xs k := by
  induction k with
  | zero => intro _ j hj; exact absurd hj (Nat.not_lt_zero _)
  | succ k ih =>
    intro hk j hj h
    rw [lensTo_succ xs k (by omega)]
    by_cases e : j = k
    · subst e; omega
    · have := ih (by omega) j (by omega) h
      omega

/-- What Lengths answers says: above 'most', or so many texts and so many bytes. -/
def LensRes (xs : List ByteArray) (most : Nat) (e : Ending) : Prop :=
  ∃ r : Nat, e = .returned (.int .i64 r) ∧ (r ≤ most → xs.length ≤ most ∧ ∀ x ∈ xs, x.size ≤ most)
theorem lensRes_over (xs : List ByteArray) (most r : Nat) (h : most < r) : LensRes xs most (.returned (.int .i64 r)) := ⟨r, rfl, fun h' => by omega⟩
theorem lensRes_all (xs : List ByteArray) (most k : Nat) (hk : ¬ k < xs.length) (h : k ≤ xs.length) : LensRes xs most (.returned (.int .i64 (lensTo xs k))) :=
  ⟨_, rfl, fun h' => ⟨by have := lensTo_le xs k h; omega, fun x hx => by
    obtain ⟨j, hj, rfl⟩ := List.getElem_of_mem hx
    have := lensTo_mem xs k h j (by omega) hj
    omega⟩⟩

end Go.Proofs.YtbkdecgfiiajnaaGreatDoor
/-
  Plain facts about levels: as trees of any shape (what lies in memory), as levels that are right, their values, and that three numbers for each parameter are enough to hold two of them against each other.
  Conditions: none.
-/
namespace Go.Proofs.YtbkdecgfiiajnaaGreatDoor
namespace Lvl

/-- What lies in memory: a kind, a number, arguments. -/
inductive Lv where
  | mk (k n : Int) (args : List Lv)
mutual
def nodes : Lv → Nat
  | .mk _ _ ts => 1 + nodesL ts
def nodesL : List Lv → Nat
  | [] => 0
  | a :: ts => nodes a + nodesL ts
end
theorem nodes_pos (t : Lv) : 1 ≤ nodes t := by
  cases t
  rw [nodes]; omega
theorem nodes_mem {t : Lv} : ∀ {l : List Lv}, t ∈ l → nodes t ≤ nodesL l
  | a :: l, h => by
    rw [nodesL]
    rcases List.mem_cons.1 h with rfl | h
    · omega
    · have := nodes_mem h
      omega
theorem nodesL_append : ∀ (l k : List Lv), nodesL (l ++ k) = nodesL l + nodesL k
  | [], k => by rw [List.nil_append, nodesL]; omega
  | a :: l, k => by rw [List.cons_append, nodesL, nodesL, nodesL_append l k]; omega

/-- A right level. -/
inductive L where
  | num (n : Nat)
  | par (i : Nat)
  | succ (a : L)
  | max (a b : L)
  | imax (a b : L)
def size : L → Nat
  | .num _ => 1
  | .par _ => 1
  | .succ a => 1 + size a
  | .max a b => 1 + (size a + size b)
  | .imax a b => 1 + (size a + size b)
/-- Its value, by the parameters'. -/
def val (f : Nat → Nat) : L → Nat
  | .num n => n
  | .par i => f i
  | .succ a => val f a + 1
  | .max a b => max (val f a) (val f b)
  | .imax a b => if val f b = 0 then 0 else max (val f a) (val f b)
/-- Numbers up to 100, and m parameters. -/
def Ok (m : Nat) : L → Prop
  | .num n => n ≤ 100
  | .par i => i < m
  | .succ a => Ok m a
  | .max a b => Ok m a ∧ Ok m b
  | .imax a b => Ok m a ∧ Ok m b
/-- The tree is this right level, for m parameters. -/
inductive IsL (m : Int) : Lv → L → Prop where
  | num (n : Nat) : n ≤ 100 → IsL m (.mk 1 n []) (.num n)
  | par (i : Nat) : (i : Int) < m → IsL m (.mk 2 i []) (.par i)
  | succ {a : Lv} {x : L} : IsL m a x → IsL m (.mk 3 0 [a]) (.succ x)
  | max {a b : Lv} {x y : L} : IsL m a x → IsL m b y → IsL m (.mk 4 0 [a, b]) (.max x y)
  | imax {a b : Lv} {x y : L} : IsL m a x → IsL m b y → IsL m (.mk 5 0 [a, b]) (.imax x y)
theorem isL_nodes {m : Int} {t : Lv} {x : L} (h : IsL m t x) : nodes t = size x := by
  induction h with
  | num n _ => rfl
  | par i _ => rfl
  | succ _ ih => simp only [nodes, nodesL, size, ih]; omega
  | max _ _ ih1 ih2 => simp only [nodes, nodesL, size, ih1, ih2]; omega
  | imax _ _ ih1 ih2 => simp only [nodes, nodesL, size, ih1, ih2]; omega
theorem isL_ok {m : Nat} {t : Lv} {x : L} (h : IsL (m : Int) t x) : Ok m x := by
  induction h with
  | num n h => exact h
  | par i h => show i < m; omega
  | succ _ ih => exact ih
  | max _ _ ih1 ih2 => exact ⟨ih1, ih2⟩
  | imax _ _ ih1 ih2 => exact ⟨ih1, ih2⟩
theorem isL_mono {m m' : Int} {t : Lv} {x : L} (h : IsL m t x) (hm : m ≤ m') : IsL m' t x := by
  induction h with
  | num n h => exact .num n h
  | par i h => exact .par i (by omega)
  | succ _ ih => exact .succ ih
  | max _ _ ih1 ih2 => exact .max ih1 ih2
  | imax _ _ ih1 ih2 => exact .imax ih1 ih2
theorem isL_one {m m' : Int} {t : Lv} {x y : L} (h : IsL m t x) (h' : IsL m' t y) : x = y := by
  induction h generalizing y with
  | num n _ => cases h'; rfl
  | par i _ => cases h'; rfl
  | succ _ ih => cases h' with | succ h1 => rw [ih h1]
  | max _ _ ih1 ih2 => cases h' with | max h1 h2 => rw [ih1 h1, ih2 h2]
  | imax _ _ ih1 ih2 => cases h' with | imax h1 h2 => rw [ih1 h1, ih2 h2]
mutual
/-- Is each node right? -/
def okB (m : Int) : Lv → Bool
  | .mk k n ts => if k = 1 then decide (0 ≤ n) && decide (n ≤ 100) && decide (ts.length = 0) else if k = 2 then decide (0 ≤ n) && decide (n < m) && decide (ts.length = 0)
    else if k = 3 then decide (n = 0) && decide (ts.length = 1) && okL m ts else if k = 4 ∨ k = 5 then decide (n = 0) && decide (ts.length = 2) && okL m ts else false
def okL (m : Int) : List Lv → Bool
  | [] => true
  | a :: l => okB m a && okL m l
end
theorem okL_all (m : Int) : ∀ l : List Lv, okL m l = l.all (okB m)
  | [] => by rw [okL]; rfl
  | a :: l => by rw [okL, okL_all m l, List.all_cons]
theorem okB_of {m : Int} {t : Lv} {x : L} (h : IsL m t x) : okB m t = true := by
  induction h with
  | num n h => simp [okB]; omega
  | par i h => simp [okB]; omega
  | succ _ ih => simp [okB, okL, ih]
  | max _ _ ih1 ih2 => simp [okB, okL, ih1, ih2]
  | imax _ _ ih1 ih2 => simp [okB, okL, ih1, ih2]
mutual
theorem okB_is {m : Int} : ∀ (t : Lv), okB m t = true → ∃ x, IsL m t x
  | .mk k n ts, h => by
    rw [okB] at h
    by_cases h1 : k = 1
    · subst h1
      simp at h
      obtain ⟨⟨h2, h3⟩, rfl⟩ := h
      obtain ⟨i, rfl⟩ := Int.eq_ofNat_of_zero_le h2
      exact ⟨_, .num i (by omega)⟩
    · rw [if_neg h1] at h
      by_cases h2 : k = 2
      · subst h2
        simp at h
        obtain ⟨⟨h2, h3⟩, rfl⟩ := h
        obtain ⟨i, rfl⟩ := Int.eq_ofNat_of_zero_le h2
        exact ⟨_, .par i h3⟩
      · rw [if_neg h2] at h
        by_cases h3 : k = 3
        · subst h3
          simp at h
          obtain ⟨⟨rfl, h4⟩, h5⟩ := h
          have hy := okL_is ts h5
          match ts, h4, hy with
          | [a], _, hy =>
            obtain ⟨x, ha⟩ := hy a (by simp)
            exact ⟨_, .succ ha⟩
        · rw [if_neg h3] at h
          by_cases h4 : k = 4 ∨ k = 5
          · rw [if_pos h4] at h
            simp at h
            obtain ⟨⟨rfl, h5⟩, h6⟩ := h
            have hy := okL_is ts h6
            match ts, h5, hy with
            | [a, b], _, hy =>
              obtain ⟨x, ha⟩ := hy a (by simp)
              obtain ⟨y, hb⟩ := hy b (by simp)
              rcases h4 with rfl | rfl
              · exact ⟨_, .max ha hb⟩
              · exact ⟨_, .imax ha hb⟩
          · rw [if_neg h4] at h
            cases h
theorem okL_is {m : Int} : ∀ (l : List Lv), okL m l = true → ∀ b ∈ l, ∃ x, IsL m b x
  | [], _, _, hb => by cases hb
  | a :: l, h, b, hb => by
    rw [okL, Bool.and_eq_true] at h
    have h1 := okB_is a h.1
    have h2 := okL_is l h.2
    rcases List.mem_cons.1 hb with e | hb
    · rw [e]; exact h1
    · exact h2 b hb
end
theorem okB_iff {m : Int} {t : Lv} : okB m t = true ↔ ∃ x, IsL m t x := ⟨okB_is t, fun ⟨_, h⟩ => okB_of h⟩
theorem size_pos (x : L) : 1 ≤ size x := by cases x <;> simp only [size] <;> omega

/-- Which parameters are above 0. -/
def Pat (s : Nat → Bool) (f : Nat → Nat) : Prop := ∀ i, f i = 0 ↔ s i = false
theorem val_zero {s : Nat → Bool} {f g : Nat → Nat} (hf : Pat s f) (hg : Pat s g) (x : L) : val f x = 0 ↔ val g x = 0 := by
  induction x with
  | num n => exact Iff.rfl
  | par i => exact (hf i).trans (hg i).symm
  | succ a _ => simp [val]
  | max a b ih1 ih2 => simp only [val]; omega
  | imax a b ih1 ih2 =>
    simp only [val]
    by_cases h : val f b = 0
    · rw [if_pos h, if_pos (ih2.1 h)]
    · rw [if_neg h, if_neg (fun e => h (ih2.2 e))]
      omega
/-- Its form where just these parameters are above 0: the greatest of a number and of parameters with something added. -/
def Form (s : Nat → Bool) (x : L) (c : Nat) (d : Nat → Option Nat) : Prop :=
  c ≤ 100 + size x ∧ (∀ i e, d i = some e → s i = true ∧ e ≤ size x) ∧
    ∀ f, Pat s f → c ≤ val f x ∧ (∀ i e, d i = some e → f i + e ≤ val f x) ∧ (val f x = c ∨ ∃ i e, d i = some e ∧ val f x = f i + e)
def joinO : Option Nat → Option Nat → Option Nat
  | none, y => y
  | x, none => x
  | some a, some b => some (max a b)
theorem joinO_some {x y : Option Nat} {e : Nat} (h : joinO x y = some e) : (x = some e ∨ y = some e) ∧ (∀ a, x = some a → a ≤ e) ∧ (∀ b, y = some b → b ≤ e) := by
  cases x with
  | none =>
    simp only [joinO] at h
    exact ⟨.inr h, fun _ h' => (by cases h'), fun b h' => by rw [h] at h'; cases h'; exact Nat.le_refl _⟩
  | some a =>
    cases y with
    | none =>
      simp only [joinO] at h
      exact ⟨.inl h, fun _ h' => by rw [h] at h'; cases h'; exact Nat.le_refl _, fun _ h' => (by cases h')⟩
    | some b =>
      simp only [joinO, Option.some.injEq] at h
      subst h
      refine ⟨?_, fun _ h' => by cases h'; omega, fun _ h' => by cases h'; omega⟩
      by_cases hab : a ≤ b
      · exact .inr (by rw [Nat.max_def, if_pos hab])
      · exact .inl (by rw [Nat.max_def, if_neg hab])
theorem joinO_left {x y : Option Nat} {a : Nat} (h : x = some a) : ∃ e, joinO x y = some e ∧ a ≤ e := by
  subst h
  cases y with
  | none => exact ⟨a, rfl, Nat.le_refl _⟩
  | some b => exact ⟨_, rfl, Nat.le_max_left _ _⟩
theorem joinO_right {x y : Option Nat} {b : Nat} (h : y = some b) : ∃ e, joinO x y = some e ∧ b ≤ e := by
  subst h
  cases x with
  | none => exact ⟨b, rfl, Nat.le_refl _⟩
  | some a => exact ⟨_, rfl, Nat.le_max_right _ _⟩
/-- The greater of two. -/
theorem form_join {s : Nat → Bool} {a b : L} {c1 c2 : Nat} {d1 d2 : Nat → Option Nat} (h1 : Form s a c1 d1) (h2 : Form s b c2 d2) (x : L) (hx : size x = 1 + (size a + size b)) (hv : ∀ f, Pat s f → val f x = max (val f a) (val f b)) :
    Form s x (max c1 c2) (fun i => joinO (d1 i) (d2 i)) := by
  obtain ⟨p1, q1, r1⟩ := h1
  obtain ⟨p2, q2, r2⟩ := h2
  refine ⟨by omega, fun i e h => ?_, fun f hf => ?_⟩
  · obtain ⟨h3, _, _⟩ := joinO_some h
    rcases h3 with h3 | h3
    · have := q1 i e h3
      exact ⟨this.1, by omega⟩
    · have := q2 i e h3
      exact ⟨this.1, by omega⟩
  · obtain ⟨u1, v1, w1⟩ := r1 f hf
    obtain ⟨u2, v2, w2⟩ := r2 f hf
    rw [hv f hf]
    refine ⟨by omega, fun i e h => ?_, ?_⟩
    · obtain ⟨h3, _, _⟩ := joinO_some h
      rcases h3 with h3 | h3
      · have := v1 i e h3; omega
      · have := v2 i e h3; omega
    · by_cases hle : val f a ≤ val f b
      · have e0 : max (val f a) (val f b) = val f b := by omega
        rw [e0]
        rcases w2 with w2 | ⟨i, e, h3, h4⟩
        · exact .inl (by omega)
        · obtain ⟨e', h5, h6⟩ := joinO_right (x := d1 i) h3
          refine .inr ⟨i, e', h5, ?_⟩
          obtain ⟨h7, _, _⟩ := joinO_some h5
          rcases h7 with h7 | h7
          · have := v1 i e' h7; omega
          · have := v2 i e' h7; omega
      · have e0 : max (val f a) (val f b) = val f a := by omega
        rw [e0]
        rcases w1 with w1 | ⟨i, e, h3, h4⟩
        · exact .inl (by omega)
        · obtain ⟨e', h5, h6⟩ := joinO_left (y := d2 i) h3
          refine .inr ⟨i, e', h5, ?_⟩
          obtain ⟨h7, _, _⟩ := joinO_some h5
          rcases h7 with h7 | h7
          · have := v1 i e' h7; omega
          · have := v2 i e' h7; omega
/-- A pattern's own numbers: 0, or 1. -/
def ones (s : Nat → Bool) : Nat → Nat := fun i => if s i then 1 else 0
theorem ones_pat (s : Nat → Bool) : Pat s (ones s) := fun i => by
  unfold ones
  cases s i <;> simp
theorem form_ex {m : Nat} (s : Nat → Bool) : ∀ (x : L), Ok m x → ∃ c d, Form s x c d
  | .num n, h => ⟨n, fun _ => none, by simp only [size]; have : n ≤ 100 := h; omega, (fun _ _ h => by cases h), fun f _ => ⟨Nat.le_refl _, (fun _ _ h => by cases h), .inl rfl⟩⟩
  | .par i, _ => by
    cases hs : s i
    · exact ⟨0, fun _ => none, by omega, (fun _ _ h => by cases h), fun f hf => ⟨Nat.zero_le _, (fun _ _ h => by cases h), .inl ((hf i).2 hs)⟩⟩
    · refine ⟨0, fun j => if j = i then some 0 else none, by omega, fun j e h => ?_, fun f hf => ⟨Nat.zero_le _, fun j e h => ?_, .inr ⟨i, 0, by simp, rfl⟩⟩⟩
      · by_cases hj : j = i
        · subst hj
          simp at h
          subst h
          exact ⟨hs, Nat.zero_le _⟩
        · simp [hj] at h
      · by_cases hj : j = i
        · subst hj
          simp at h
          subst h
          exact Nat.le_refl _
        · simp [hj] at h
  | .succ a, h => by
    obtain ⟨c, d, p, q, r⟩ := form_ex s a h
    refine ⟨c + 1, fun i => (d i).map (· + 1), by simp only [size]; omega, fun i e h => ?_, fun f hf => ?_⟩
    · obtain ⟨e', h1, rfl⟩ := Option.map_eq_some_iff.1 h
      have := q i e' h1
      exact ⟨this.1, by simp only [size]; omega⟩
    · obtain ⟨u, v, w⟩ := r f hf
      refine ⟨by simp only [val]; omega, fun i e h => ?_, ?_⟩
      · obtain ⟨e', h1, rfl⟩ := Option.map_eq_some_iff.1 h
        have := v i e' h1
        simp only [val]; omega
      · rcases w with w | ⟨i, e, h1, h2⟩
        · exact .inl (by simp only [val]; omega)
        · exact .inr ⟨i, e + 1, by simp [h1], by simp only [val]; omega⟩
  | .max a b, h => by
    obtain ⟨c1, d1, h1⟩ := form_ex s a h.1
    obtain ⟨c2, d2, h2⟩ := form_ex s b h.2
    exact ⟨_, _, form_join h1 h2 (.max a b) rfl fun _ _ => rfl⟩
  | .imax a b, h => by
    obtain ⟨c1, d1, h1⟩ := form_ex s a h.1
    obtain ⟨c2, d2, h2⟩ := form_ex s b h.2
    by_cases hz : val (ones s) b = 0
    · refine ⟨0, fun _ => none, by omega, (fun _ _ h => by cases h), fun f hf => ⟨Nat.zero_le _, (fun _ _ h => by cases h), .inl ?_⟩⟩
      have := (val_zero hf (ones_pat s) b).2 hz
      simp only [val]
      rw [if_pos this]
    · refine ⟨_, _, form_join h1 h2 (.imax a b) rfl fun f hf => ?_⟩
      have : ¬ val f b = 0 := fun e => hz ((val_zero hf (ones_pat s) b).1 e)
      simp only [val]
      rw [if_neg this]

/-- At most, whatever the parameters' numbers are; at most, where each is 0, 1 or 1000. -/
def Leq (x y : L) : Prop := ∀ f, val f x ≤ val f y
def LeqS (x y : L) : Prop := ∀ f : Nat → Nat, (∀ i, f i = 0 ∨ f i = 1 ∨ f i = 1000) → val f x ≤ val f y
/-- Three numbers for each parameter are enough. -/
theorem leq_small {m m' : Nat} {x y : L} (hx : Ok m x) (hy : Ok m' y) (ny : size y ≤ 500) (h : LeqS x y) : Leq x y := by
  intro f
  let s : Nat → Bool := fun i => decide (f i ≠ 0)
  have hf : Pat s f := fun i => by simp [s]
  obtain ⟨c1, d1, p1, q1, r1⟩ := form_ex s x hx
  obtain ⟨c2, d2, p2, q2, r2⟩ := form_ex s y hy
  obtain ⟨u1, v1, w1⟩ := r1 f hf
  obtain ⟨u2, v2, w2⟩ := r2 f hf
  have pos : ∀ i, s i = true → 1 ≤ f i := fun i hi => by
    have : f i ≠ 0 := of_decide_eq_true hi
    omega
  rcases w1 with w1 | ⟨i, e, h1, h2⟩
  · obtain ⟨a1, _, _⟩ := r1 (ones s) (ones_pat s)
    obtain ⟨_, _, a2⟩ := r2 (ones s) (ones_pat s)
    have hs := h (ones s) (fun i => by unfold ones; cases s i <;> simp)
    rcases a2 with a2 | ⟨j, e, h3, h4⟩
    · omega
    · have h5 := v2 j e h3
      have h6 := pos j (q2 j e h3).1
      have h7 : ones s j = 1 := by unfold ones; rw [(q2 j e h3).1]; rfl
      omega
  · let g : Nat → Nat := fun j => if j = i then 1000 else ones s j
    have hi := (q1 i e h1).1
    have hg : Pat s g := fun j => by
      show (if j = i then 1000 else ones s j) = 0 ↔ _
      by_cases hj : j = i
      · subst hj
        rw [if_pos rfl, hi]; simp
      · rw [if_neg hj]; exact ones_pat s j
    obtain ⟨_, b1, _⟩ := r1 g hg
    obtain ⟨_, _, b2⟩ := r2 g hg
    have hs := h g (fun j => by
      show (if j = i then 1000 else ones s j) = 0 ∨ (if j = i then 1000 else ones s j) = 1 ∨ (if j = i then 1000 else ones s j) = 1000
      by_cases hj : j = i
      · rw [if_pos hj]; exact .inr (.inr rfl)
      · rw [if_neg hj]; unfold ones; cases s j <;> simp)
    have h3 := b1 i e h1
    have gi : g i = 1000 := by show (if i = i then 1000 else ones s i) = 1000; rw [if_pos rfl]
    rcases b2 with b2 | ⟨j, e', h4, h5⟩
    · omega
    · have hj : j = i := by
        by_cases hj : j = i
        · exact hj
        · have gj : g j ≤ 1 := by
            show (if j = i then 1000 else ones s j) ≤ 1
            rw [if_neg hj]; unfold ones; cases s j <;> simp
          have := (q2 j e' h4).2
          omega
      subst hj
      have := v2 j e' h4
      omega
theorem leq_iff {m m' : Nat} {x y : L} (hx : Ok m x) (hy : Ok m' y) (ny : size y ≤ 500) : Leq x y ↔ LeqS x y := ⟨fun h f _ => h f, leq_small hx hy ny⟩
theorem leq_refl (x : L) : Leq x x := fun _ => Nat.le_refl _
theorem leq_trans {x y z : L} (h : Leq x y) (k : Leq y z) : Leq x z := fun f => Nat.le_trans (h f) (k f)
end Lvl
end Go.Proofs.YtbkdecgfiiajnaaGreatDoor
/-
  Plain facts about terms, as trees of any shape (what lies in memory): nodes, which are right, their least bound, what is lifted.
  Conditions: none (what is a right level, a right name is left open).
-/
namespace Go.Proofs.YtbkdecgfiiajnaaGreatDoor
open Lvl
namespace Trm

/-- What lies in memory: a kind, a number, a name, levels, arguments. -/
inductive Tm where
  | mk (k n : Int) (name : ByteArray) (levels : List Lv) (args : List Tm)
/-- Does the argument at place i stand in a binder more? -/
def binds (k : Int) (i : Nat) : Bool := (decide (k = 5) || decide (k = 6)) && decide (i = 1) || decide (k = 7) && decide (i = 2)
def under (k : Int) (i : Nat) (d : Int) : Int := if binds k i then d + 1 else d
mutual
def tnodes : Tm → Nat
  | .mk _ _ _ ls ts => 1 + nodesL ls + tnodesL ts
def tnodesL : List Tm → Nat
  | [] => 0
  | a :: ts => tnodes a + tnodesL ts
end
theorem tnodes_pos (t : Tm) : 1 ≤ tnodes t := by
  cases t
  rw [tnodes]; omega
/-- Are the kind, the number, the name, the levels and how many arguments there are right, in k variables? -/
def shape (RN : ByteArray → Bool) (RL : Lv → Bool) (kd n : Int) (nm : ByteArray) (ls : List Lv) (m : Nat) (k : Int) : Bool :=
  ls.all RL && (if kd = 1 then decide (0 ≤ n) && decide (n < k) && decide (ls.length = 0) && decide (m = 0) && decide (nm.size = 0)
    else decide (n = 0) && (if kd = 2 then decide (ls.length = 1) && decide (m = 0) && decide (nm.size = 0)
      else if kd = 3 then RN nm && decide (ls.length ≤ 4) && decide (m = 0)
      else decide (ls.length = 0) && decide (nm.size = 0) && (if kd = 4 ∨ kd = 5 ∨ kd = 6 then decide (m = 2) else decide (kd = 7) && decide (m = 3))))
variable (RN : ByteArray → Bool) (RL : Lv → Bool)
mutual
def okT : Tm → Int → Bool
  | .mk kd n nm ls ts, k => shape RN RL kd n nm ls ts.length k && okTL kd ts 0 k
def okTL (kd : Int) : List Tm → Nat → Int → Bool
  | [], _, _ => true
  | a :: ts, i, k => okT a (under kd i k) && okTL kd ts (i + 1) k
end
mutual
def loT : Tm → Int → Int
  | .mk kd n _ _ ts, d => if kd = 1 then max (n - d + 1) 0 else loTL kd ts 0 d
def loTL (kd : Int) : List Tm → Nat → Int → Int
  | [], _, _ => 0
  | a :: ts, i, d => max (loT a (under kd i d)) (loTL kd ts (i + 1) d)
end
mutual
theorem loT_pos : ∀ (t : Tm) (d : Int), 0 ≤ loT t d
  | .mk kd n _ _ ts, d => by
    rw [loT]
    split
    · omega
    · exact loTL_pos kd ts 0 d
theorem loTL_pos (kd : Int) : ∀ (ts : List Tm) (i : Nat) (d : Int), 0 ≤ loTL kd ts i d
  | [], _, _ => by rw [loTL]; exact Int.le_refl _
  | a :: ts, i, d => by
    rw [loTL]
    have := loT_pos a (under kd i d)
    omega
end
theorem under_add (kd : Int) (i : Nat) (k d : Int) : under kd i (k + d) = k + under kd i d := by
  unfold under
  split <;> omega
theorem shape_other {kd n : Int} {nm : ByteArray} {ls : List Lv} {m : Nat} (h : kd ≠ 1) (k k' : Int) : shape RN RL kd n nm ls m k = shape RN RL kd n nm ls m k' := by
  unfold shape
  rw [if_neg h, if_neg h]
theorem shape_var {n : Int} {nm : ByteArray} {ls : List Lv} {m : Nat} {K : Int} (h : shape RN RL 1 n nm ls m K = true) (k : Int) : shape RN RL 1 n nm ls m k = decide (n < k) := by
  unfold shape at h ⊢
  rw [if_pos rfl] at h ⊢
  simp only [Bool.and_eq_true, decide_eq_true_eq] at h
  obtain ⟨h1, ⟨⟨⟨h2, h3⟩, h4⟩, h5⟩, h6⟩ := h
  simp [h1, h2, h4, h5, h6]
mutual
/-- What is right in so many variables is so in k just if its least bound is at most k. -/
theorem okT_lo : ∀ (t : Tm) (K k d : Int), okT RN RL t K = true → 0 ≤ k → (okT RN RL t (k + d) = true ↔ loT t d ≤ k)
  | .mk kd n nm ls ts, K, k, d, h, hk => by
    rw [okT, Bool.and_eq_true] at h
    rw [okT, loT, Bool.and_eq_true]
    by_cases h1 : kd = 1
    · subst h1
      rw [if_pos rfl, shape_var RN RL h.1, decide_eq_true_eq]
      have hl : ts = [] := by
        have := h.1
        unfold shape at this
        rw [if_pos rfl] at this
        simp only [Bool.and_eq_true, decide_eq_true_eq] at this
        exact List.length_eq_zero_iff.1 this.2.1.2
      subst hl
      rw [okTL]
      simp only [and_true]
      omega
    · rw [if_neg h1, shape_other RN RL h1 (k + d) K, ← okTL_lo kd ts 0 K k d h.2 hk]
      exact ⟨fun h' => h'.2, fun h' => ⟨h.1, h'⟩⟩
theorem okTL_lo (kd : Int) : ∀ (ts : List Tm) (i : Nat) (K k d : Int), okTL RN RL kd ts i K = true → 0 ≤ k → (okTL RN RL kd ts i (k + d) = true ↔ loTL kd ts i d ≤ k)
  | [], _, _, k, d, _, hk => by
    rw [okTL, loTL]
    exact ⟨fun _ => hk, fun _ => rfl⟩
  | a :: ts, i, K, k, d, h, hk => by
    rw [okTL, Bool.and_eq_true] at h
    rw [okTL, loTL, Bool.and_eq_true, under_add, okT_lo a _ k _ h.1 hk, okTL_lo kd ts (i + 1) K k d h.2 hk]
    omega
end
mutual
/-- What is lifted: c added to the variables that are loose in d binders. -/
def liT (c : Int) : Tm → Int → Tm
  | .mk kd n nm ls ts, d => .mk kd (if kd = 1 ∧ d ≤ n then n + c else n) nm ls (liTL c kd ts 0 d)
def liTL (c : Int) (kd : Int) : List Tm → Nat → Int → List Tm
  | [], _, _ => []
  | a :: ts, i, d => liT c a (under kd i d) :: liTL c kd ts (i + 1) d
end
mutual
theorem liT_nodes (c : Int) : ∀ (t : Tm) (d : Int), tnodes (liT c t d) = tnodes t
  | .mk kd n nm ls ts, d => by rw [liT, tnodes, tnodes, liTL_nodes c kd ts 0 d]
theorem liTL_nodes (c : Int) (kd : Int) : ∀ (ts : List Tm) (i : Nat) (d : Int), tnodesL (liTL c kd ts i d) = tnodesL ts
  | [], _, _ => by rw [liTL]
  | a :: ts, i, d => by rw [liTL, tnodesL, tnodesL, liT_nodes c a, liTL_nodes c kd ts]
end
theorem liTL_length (c : Int) (kd : Int) : ∀ (ts : List Tm) (i : Nat) (d : Int), (liTL c kd ts i d).length = ts.length
  | [], _, _ => by rw [liTL]
  | a :: ts, i, d => by rw [liTL, List.length_cons, List.length_cons, liTL_length c kd ts]
mutual
/-- A lifted term, looked at from c binders further in, is bound where the term was. -/
theorem liT_lo (c : Int) (hc : 0 ≤ c) : ∀ (t : Tm) (d : Int), loT (liT c t d) (c + d) = loT t d
  | .mk kd n nm ls ts, d => by
    rw [liT, loT, loT]
    split
    · rename_i h1
      subst h1
      split <;> omega
    · exact liTL_lo c hc kd ts 0 d
theorem liTL_lo (c : Int) (hc : 0 ≤ c) (kd : Int) : ∀ (ts : List Tm) (i : Nat) (d : Int), loTL kd (liTL c kd ts i d) i (c + d) = loTL kd ts i d
  | [], _, _ => by rw [liTL, loTL, loTL]
  | a :: ts, i, d => by rw [liTL, loTL, loTL, under_add, liT_lo c hc a, liTL_lo c hc kd ts]
end
mutual
/-- A lifted term is right in c variables more. -/
theorem liT_ok (c : Int) (hc : 0 ≤ c) : ∀ (t : Tm) (K d : Int), okT RN RL t K = true → okT RN RL (liT c t d) (K + c) = true
  | .mk kd n nm ls ts, K, d, h => by
    rw [okT, Bool.and_eq_true] at h
    rw [liT, okT, Bool.and_eq_true, liTL_length]
    refine ⟨?_, liTL_ok c hc kd ts 0 K d h.2⟩
    by_cases h1 : kd = 1
    · subst h1
      have hs := h.1
      unfold shape at hs ⊢
      rw [if_pos rfl] at hs ⊢
      simp only [Bool.and_eq_true, decide_eq_true_eq] at hs ⊢
      obtain ⟨q1, ⟨⟨⟨q2, q3⟩, q4⟩, q5⟩, q6⟩ := hs
      refine ⟨q1, ⟨⟨⟨?_, ?_⟩, q4⟩, q5⟩, q6⟩
      · split <;> omega
      · split <;> omega
    · rw [if_neg (fun h => h1 h.1), shape_other RN RL h1 (K + c) K]
      exact h.1
theorem liTL_ok (c : Int) (hc : 0 ≤ c) (kd : Int) : ∀ (ts : List Tm) (i : Nat) (K d : Int), okTL RN RL kd ts i K = true → okTL RN RL kd (liTL c kd ts i d) i (K + c) = true
  | [], _, _, _, _ => by rw [liTL, okTL]
  | a :: ts, i, K, d, h => by
    rw [okTL, Bool.and_eq_true] at h
    rw [liTL, okTL, Bool.and_eq_true]
    have e : under kd i (K + c) = under kd i K + c := by
      unfold under
      split <;> omega
    rw [e]
    exact ⟨liT_ok c hc a _ _ h.1, liTL_ok c hc kd ts (i + 1) K d h.2⟩
end
/-- The functions from types to a type, from the i-th type on. -/
def arrow (to : Tm) : List Tm → Nat → Tm
  | [], i => liT i to 0
  | a :: fs, i => .mk 6 0 ⟨#[]⟩ [] [liT i a 0, arrow to fs (i + 1)]
theorem lo_pi (a b : Tm) (d : Int) : loT (.mk 6 0 ⟨#[]⟩ [] [a, b]) d = max (loT a d) (loT b (d + 1)) := by
  rw [loT, if_neg (by decide), loTL, loTL, loTL]
  have e0 : under 6 0 d = d := by unfold under; simp [binds]
  have e1 : under 6 (0 + 1) d = d + 1 := by unfold under; simp [binds]
  rw [e0, e1]
  have := loT_pos b (d + 1)
  omega
theorem arrow_lo (to : Tm) : ∀ (fs : List Tm) (i : Nat), loT (arrow to fs i) i = fs.foldr (fun a m => max (loT a 0) m) (loT to 0)
  | [], i => by
    rw [arrow, List.foldr_nil]
    have := liT_lo (i : Int) (by omega) to 0
    rwa [Int.add_zero] at this
  | a :: fs, i => by
    rw [arrow, lo_pi, List.foldr_cons, show ((i : Int) + 1) = ((i + 1 : Nat) : Int) by omega, arrow_lo to fs (i + 1)]
    have := liT_lo (i : Int) (by omega) a 0
    rw [Int.add_zero] at this
    rw [this]
theorem arrow_nodes (to : Tm) : ∀ (fs : List Tm) (i : Nat), tnodes (arrow to fs i) = tnodesL fs + fs.length + tnodes to
  | [], i => by rw [arrow, liT_nodes, tnodesL, List.length_nil]; omega
  | a :: fs, i => by
    rw [arrow, tnodes, tnodesL, tnodesL, tnodesL, liT_nodes, arrow_nodes to fs (i + 1), List.length_cons, tnodesL, nodesL]
    omega
theorem okT_mono {t : Tm} {k : Int} (h : okT RN RL t k = true) (hk : 0 ≤ k) (c : Int) (hc : 0 ≤ c) : okT RN RL t (k + c) = true := by
  have h1 := (okT_lo RN RL t k k 0 h hk).1 (by rw [Int.add_zero]; exact h)
  have h2 := (okT_lo RN RL t k (k + c) 0 h (by omega)).2 (by omega)
  rwa [Int.add_zero] at h2
/-- A term applied to several, one behind the other. -/
def apps (f : Tm) : List Tm → Tm
  | [] => f
  | a :: ts => apps (.mk 4 0 ⟨#[]⟩ [] [f, a]) ts
theorem apps_nodes : ∀ (ts : List Tm) (f : Tm), tnodes (apps f ts) = tnodes f + tnodesL ts + ts.length
  | [], f => by rw [apps, tnodesL, List.length_nil]; omega
  | a :: ts, f => by
    rw [apps, apps_nodes ts, tnodes, tnodesL, tnodesL, tnodesL, tnodesL, nodesL, List.length_cons]
    omega
theorem ok_app {f a : Tm} {k : Int} (hf : okT RN RL f k = true) (ha : okT RN RL a k = true) : okT RN RL (.mk 4 0 ⟨#[]⟩ [] [f, a]) k = true := by
  rw [okT, okTL, okTL, okTL]
  have e0 : under 4 0 k = k := by unfold under; simp [binds]
  have e1 : under 4 (0 + 1) k = k := by unfold under; simp [binds]
  rw [e0, e1, hf, ha]
  simp [shape]
  rfl
theorem apps_ok {k : Int} : ∀ (ts : List Tm) (f : Tm), okT RN RL f k = true → (∀ a ∈ ts, okT RN RL a k = true) → okT RN RL (apps f ts) k = true
  | [], f, hf, _ => by rw [apps]; exact hf
  | a :: ts, f, hf, h => by
    rw [apps]
    exact apps_ok ts _ (ok_app RN RL hf (h a (by simp))) fun b hb => h b (by simp [hb])
/-- A term over several types, the first one outermost. -/
def over (kd : Int) (f : Tm) : List Tm → Tm
  | [] => f
  | a :: ts => .mk kd 0 ⟨#[]⟩ [] [a, over kd f ts]
theorem over_nodes (kd : Int) (f : Tm) : ∀ (ts : List Tm), tnodes (over kd f ts) = tnodes f + tnodesL ts + ts.length
  | [] => by rw [over, tnodesL, List.length_nil]; omega
  | a :: ts => by
    rw [over, tnodes, tnodesL, tnodesL, tnodesL, tnodesL, nodesL, over_nodes kd f ts, List.length_cons]
    omega
theorem over_ok {kd : Int} (hkd : kd = 5 ∨ kd = 6) (f : Tm) : ∀ (ts : List Tm) (k : Int), 0 ≤ k → okT RN RL f k = true → (∀ a ∈ ts, okT RN RL a k = true) → okT RN RL (over kd f ts) k = true
  | [], k, _, hf, _ => by rw [over]; exact hf
  | a :: ts, k, hk, hf, h => by
    rw [over, okT, okTL, okTL, okTL]
    have e0 : under kd 0 k = k := by unfold under; simp [binds]
    have e1 : under kd (0 + 1) k = k + 1 := by
      unfold under
      rcases hkd with rfl | rfl <;> simp [binds]
    rw [e0, e1, h a (by simp), over_ok hkd f ts (k + 1) (by omega) (okT_mono RN RL hf hk 1 (by omega)) fun b hb => okT_mono RN RL (h b (by simp [hb])) hk 1 (by omega)]
    rcases hkd with rfl | rfl <;> simp [shape] <;> rfl
/-- A term's head, and what it is applied to. -/
def spine : Tm → Tm × List Tm
  | .mk k n nm ls [g, a] => if k = 4 then ((spine g).1, (spine g).2 ++ [a]) else (.mk k n nm ls [g, a], [])
  | t => (t, [])
theorem spine_app (f a : Tm) : spine (.mk 4 0 ⟨#[]⟩ [] [f, a]) = ((spine f).1, (spine f).2 ++ [a]) := by rw [spine, if_pos rfl]
theorem spine_apps : ∀ (ts : List Tm) (f : Tm), spine (apps f ts) = ((spine f).1, (spine f).2 ++ ts)
  | [], f => by rw [apps, List.append_nil]
  | a :: ts, f => by
    rw [apps, spine_apps ts, spine_app, List.append_assoc]
    rfl
end Trm
end Go.Proofs.YtbkdecgfiiajnaaGreatDoor
