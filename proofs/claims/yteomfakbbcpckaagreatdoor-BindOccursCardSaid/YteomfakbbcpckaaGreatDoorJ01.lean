/-
  Plain facts and contracts that the law's proof stands on, joined.
  Conditions: each fact's own.
-/
import Derived.Test.YteomfakbbcpckaaGreatDoorRows
import Derived.WalkKit
import Derived.WalkSpells
import Derived.WalkLawsBesides
import Derived.Deep.QuietTactic
import Derived.BigQuiet
import Derived.Deep.Draws
import Derived.Lib.Hide
namespace Go.Proofs.YteomfakbbcpckaaGreatDoor
theorem s1q {α : Type _} (l : List α) (i : Nat) (a : α) : l.toArray.setIfInBounds i a = (l.set i a).toArray := List.setIfInBounds_toArray ..
theorem s2q {α : Type _} {a : α} {t : List α} {b : α} : (a :: t).set 0 b = b :: t := rfl
theorem s3q {α : Type _} {a : α} {t : List α} {n : Nat} {b : α} : (a :: t).set (n + 1) b = a :: t.set n b := rfl
open Go.RowKit
def Txt (w : World) (A : Option Addr) (xs : List ByteArray) : Prop :=
 xs ≠ [] → ∃ b o, A = some ⟨b, o, none⟩ ∧ b < w.heap.size ∧ ∀ j x, xs[j]? = some x → w.cell? ⟨b, o + j, none⟩ = some (.string x)
theorem Txt.below {w w' : World} {A : Option Addr} {xs : List ByteArray} (h : Txt w A xs) (hb : Below w.heap.size w w') : Txt w' A xs := fun hne => by
 obtain ⟨b, o, rfl, hlt, hc⟩ := h hne
 exact ⟨b, o, rfl, Nat.lt_of_lt_of_le hlt hb.size, fun j x hx => (hb.cell (p := ⟨b, o + j, none⟩) hlt).trans (hc j x hx)⟩
theorem Txt.at_ {w : World} {A : Option Addr} {xs : List ByteArray} (h : Txt w A xs) {k : Nat} (hk : k < xs.length) :
  ∃ b o, A = some ⟨b, o, none⟩ ∧ w.cell? ⟨b, o + k, none⟩ = some (.string xs[k]) := by
 obtain ⟨b, o, rfl, _, hc⟩ := h (by intro e; subst e; exact absurd hk (Nat.not_lt_zero _))
 exact ⟨b, o, rfl, hc k _ (List.getElem?_eq_getElem hk)⟩
theorem quietBelow (w : World) (q : Nat) : Below w.heap.size w (w.drewN q) := ⟨rfl, rfl, rfl, Nat.le_refl _, fun _ _ => rfl⟩
theorem bytes_inj {x y : ByteArray} (h : x.toList = y.toList) : x = y := by
 rw [ByteArray.toList_eq, ByteArray.toList_eq] at h
 cases x; cases y
 exact congrArg ByteArray.mk (Array.toList_inj.1 h)
theorem bytes_eqb (x y : ByteArray) : (x.toList == y.toList) = decide (x = y) := by
 by_cases h : x = y
 ·subst h; simp
 ·rw [decide_eq_false h, beq_eq_false_iff_ne]; exact fun e => h (bytes_inj e)
end Go.Proofs.YteomfakbbcpckaaGreatDoor
namespace Go.Proofs.YteomfakbbcpckaaGreatDoor
namespace Lvl
inductive Lv where
 | mk (k n : Int) (args : List Lv)
mutual
def nodes : Lv → Nat
 | .mk _ _ ts => 1 + nodesL ts
def nodesL : List Lv → Nat
 | [] => 0
 | a :: ts => nodes a + nodesL ts
end
theorem nodes_pos (t : Lv) : 1 ≤ nodes t := by
 cases t
 rw [nodes]; omega
theorem nodes_mem {t : Lv} : ∀ {l : List Lv}, t ∈ l → nodes t ≤ nodesL l
 | a :: l, h => by
  rw [nodesL]
  rcases List.mem_cons.1 h with rfl | h
  ·omega
  ·have := nodes_mem h
   omega
theorem nodesL_append : ∀ (l k : List Lv), nodesL (l ++ k) = nodesL l + nodesL k
 | [], k => by rw [List.nil_append, nodesL]; omega
 | a :: l, k => by rw [List.cons_append, nodesL, nodesL, nodesL_append l k]; omega
inductive L where
 | num (n : Nat)
 | par (i : Nat)
 | succ (a : L)
 | max (a b : L)
 | imax (a b : L)
def size : L → Nat
 | .num _ => 1
 | .par _ => 1
 | .succ a => 1 + size a
 | .max a b => 1 + (size a + size b)
 | .imax a b => 1 + (size a + size b)
def val (f : Nat → Nat) : L → Nat
 | .num n => n
 | .par i => f i
 | .succ a => val f a + 1
 | .max a b => max (val f a) (val f b)
 | .imax a b => if val f b = 0 then 0 else max (val f a) (val f b)
inductive IsL (m : Int) : Lv → L → Prop where
 | num (n : Nat) : n ≤ 100 → IsL m (.mk 1 n []) (.num n)
 | par (i : Nat) : (i : Int) < m → IsL m (.mk 2 i []) (.par i)
 | succ {a : Lv} {x : L} : IsL m a x → IsL m (.mk 3 0 [a]) (.succ x)
 | max {a b : Lv} {x y : L} : IsL m a x → IsL m b y → IsL m (.mk 4 0 [a, b]) (.max x y)
 | imax {a b : Lv} {x y : L} : IsL m a x → IsL m b y → IsL m (.mk 5 0 [a, b]) (.imax x y)
theorem isL_one {m m' : Int} {t : Lv} {x y : L} (h : IsL m t x) (h' : IsL m' t y) : x = y := by
 induction h generalizing y with
 | num n _ => cases h'; rfl
 | par i _ => cases h'; rfl
 | succ _ ih => cases h' with | succ h1 => rw [ih h1]
 | max _ _ ih1 ih2 => cases h' with | max h1 h2 => rw [ih1 h1, ih2 h2]
 | imax _ _ ih1 ih2 => cases h' with | imax h1 h2 => rw [ih1 h1, ih2 h2]
mutual
def okB (m : Int) : Lv → Bool
 | .mk k n ts => if k = 1 then decide (0 ≤ n) && decide (n ≤ 100) && decide (ts.length = 0) else if k = 2 then decide (0 ≤ n) && decide (n < m) && decide (ts.length = 0)
  else if k = 3 then decide (n = 0) && decide (ts.length = 1) && okL m ts else if k = 4 ∨ k = 5 then decide (n = 0) && decide (ts.length = 2) && okL m ts else false
def okL (m : Int) : List Lv → Bool
 | [] => true
 | a :: l => okB m a && okL m l
end
theorem okL_all (m : Int) : ∀ l : List Lv, okL m l = l.all (okB m)
 | [] => by rw [okL]; rfl
 | a :: l => by rw [okL, okL_all m l, List.all_cons]
end Lvl
end Go.Proofs.YteomfakbbcpckaaGreatDoor
namespace Go.Proofs.YteomfakbbcpckaaGreatDoor
open Lvl
namespace Trm
inductive Tm where
 | mk (k n : Int) (name : ByteArray) (levels : List Lv) (args : List Tm)
def binds (k : Int) (i : Nat) : Bool := (decide (k = 5) || decide (k = 6)) && decide (i = 1) || decide (k = 7) && decide (i = 2)
def under (k : Int) (i : Nat) (d : Int) : Int := if binds k i then d + 1 else d
mutual
def tnodes : Tm → Nat
 | .mk _ _ _ ls ts => 1 + nodesL ls + tnodesL ts
def tnodesL : List Tm → Nat
 | [] => 0
 | a :: ts => tnodes a + tnodesL ts
end
theorem tnodes_pos (t : Tm) : 1 ≤ tnodes t := by
 cases t
 rw [tnodes]; omega
def shape (RN : ByteArray → Bool) (RL : Lv → Bool) (kd n : Int) (nm : ByteArray) (ls : List Lv) (m : Nat) (k : Int) : Bool :=
 ls.all RL && (if kd = 1 then decide (0 ≤ n) && decide (n < k) && decide (ls.length = 0) && decide (m = 0) && decide (nm.size = 0)
  else decide (n = 0) && (if kd = 2 then decide (ls.length = 1) && decide (m = 0) && decide (nm.size = 0)
   else if kd = 3 then RN nm && decide (ls.length ≤ 4) && decide (m = 0)
   else decide (ls.length = 0) && decide (nm.size = 0) && (if kd = 4 ∨ kd = 5 ∨ kd = 6 then decide (m = 2) else decide (kd = 7) && decide (m = 3))))
variable (RN : ByteArray → Bool) (RL : Lv → Bool)
mutual
def okT : Tm → Int → Bool
 | .mk kd n nm ls ts, k => shape RN RL kd n nm ls ts.length k && okTL kd ts 0 k
def okTL (kd : Int) : List Tm → Nat → Int → Bool
 | [], _, _ => true
 | a :: ts, i, k => okT a (under kd i k) && okTL kd ts (i + 1) k
end
mutual
def loT : Tm → Int → Int
 | .mk kd n _ _ ts, d => if kd = 1 then max (n - d + 1) 0 else loTL kd ts 0 d
def loTL (kd : Int) : List Tm → Nat → Int → Int
 | [], _, _ => 0
 | a :: ts, i, d => max (loT a (under kd i d)) (loTL kd ts (i + 1) d)
end
mutual
theorem loT_pos : ∀ (t : Tm) (d : Int), 0 ≤ loT t d
 | .mk kd n _ _ ts, d => by
  rw [loT]
  split
  ·omega
  ·exact loTL_pos kd ts 0 d
theorem loTL_pos (kd : Int) : ∀ (ts : List Tm) (i : Nat) (d : Int), 0 ≤ loTL kd ts i d
 | [], _, _ => by rw [loTL]; exact Int.le_refl _
 | a :: ts, i, d => by
  rw [loTL]
  have := loT_pos a (under kd i d)
  omega
end
theorem under_add (kd : Int) (i : Nat) (k d : Int) : under kd i (k + d) = k + under kd i d := by
 unfold under
 split <;> omega
theorem shape_other {kd n : Int} {nm : ByteArray} {ls : List Lv} {m : Nat} (h : kd ≠ 1) (k k' : Int) : shape RN RL kd n nm ls m k = shape RN RL kd n nm ls m k' := by
 unfold shape
 rw [if_neg h, if_neg h]
theorem shape_var {n : Int} {nm : ByteArray} {ls : List Lv} {m : Nat} {K : Int} (h : shape RN RL 1 n nm ls m K = true) (k : Int) : shape RN RL 1 n nm ls m k = decide (n < k) := by
 unfold shape at h ⊢
 rw [if_pos rfl] at h ⊢
 simp only [Bool.and_eq_true, decide_eq_true_eq] at h
 obtain ⟨h1, ⟨⟨⟨h2, h3⟩, h4⟩, h5⟩, h6⟩ := h
 simp [h1, h2, h4, h5, h6]
mutual
theorem okT_lo : ∀ (t : Tm) (K k d : Int), okT RN RL t K = true → 0 ≤ k → (okT RN RL t (k + d) = true ↔ loT t d ≤ k)
 | .mk kd n nm ls ts, K, k, d, h, hk => by
  rw [okT, Bool.and_eq_true] at h
  rw [okT, loT, Bool.and_eq_true]
  by_cases h1 : kd = 1
  ·subst h1
   rw [if_pos rfl, shape_var RN RL h.1, decide_eq_true_eq]
   have hl : ts = [] := by
    have := h.1
    unfold shape at this
    rw [if_pos rfl] at this
    simp only [Bool.and_eq_true, decide_eq_true_eq] at this
    exact List.length_eq_zero_iff.1 this.2.1.2
   subst hl
   rw [okTL]
   simp only [and_true]
   omega
  ·rw [if_neg h1, shape_other RN RL h1 (k + d) K, ← okTL_lo kd ts 0 K k d h.2 hk]
   exact ⟨fun h' => h'.2, fun h' => ⟨h.1, h'⟩⟩
theorem okTL_lo (kd : Int) : ∀ (ts : List Tm) (i : Nat) (K k d : Int), okTL RN RL kd ts i K = true → 0 ≤ k → (okTL RN RL kd ts i (k + d) = true ↔ loTL kd ts i d ≤ k)
 | [], _, _, k, d, _, hk => by
  rw [okTL, loTL]
  exact ⟨fun _ => hk, fun _ => rfl⟩
 | a :: ts, i, K, k, d, h, hk => by
  rw [okTL, Bool.and_eq_true] at h
  rw [okTL, loTL, Bool.and_eq_true, under_add, okT_lo a _ k _ h.1 hk, okTL_lo kd ts (i + 1) K k d h.2 hk]
  omega
end
mutual
def liT (c : Int) : Tm → Int → Tm
 | .mk kd n nm ls ts, d => .mk kd (if kd = 1 ∧ d ≤ n then n + c else n) nm ls (liTL c kd ts 0 d)
def liTL (c : Int) (kd : Int) : List Tm → Nat → Int → List Tm
 | [], _, _ => []
 | a :: ts, i, d => liT c a (under kd i d) :: liTL c kd ts (i + 1) d
end
mutual
theorem liT_nodes (c : Int) : ∀ (t : Tm) (d : Int), tnodes (liT c t d) = tnodes t
 | .mk kd n nm ls ts, d => by rw [liT, tnodes, tnodes, liTL_nodes c kd ts 0 d]
theorem liTL_nodes (c : Int) (kd : Int) : ∀ (ts : List Tm) (i : Nat) (d : Int), tnodesL (liTL c kd ts i d) = tnodesL ts
 | [], _, _ => by rw [liTL]
 | a :: ts, i, d => by rw [liTL, tnodesL, tnodesL, liT_nodes c a, liTL_nodes c kd ts]
end
theorem liTL_length (c : Int) (kd : Int) : ∀ (ts : List Tm) (i : Nat) (d : Int), (liTL c kd ts i d).length = ts.length
 | [], _, _ => by rw [liTL]
 | a :: ts, i, d => by rw [liTL, List.length_cons, List.length_cons, liTL_length c kd ts]
mutual
theorem liT_lo (c : Int) (hc : 0 ≤ c) : ∀ (t : Tm) (d : Int), loT (liT c t d) (c + d) = loT t d
 | .mk kd n nm ls ts, d => by
  rw [liT, loT, loT]
  split
  ·rename_i h1
   subst h1
   split <;> omega
  ·exact liTL_lo c hc kd ts 0 d
theorem liTL_lo (c : Int) (hc : 0 ≤ c) (kd : Int) : ∀ (ts : List Tm) (i : Nat) (d : Int), loTL kd (liTL c kd ts i d) i (c + d) = loTL kd ts i d
 | [], _, _ => by rw [liTL, loTL, loTL]
 | a :: ts, i, d => by rw [liTL, loTL, loTL, under_add, liT_lo c hc a, liTL_lo c hc kd ts]
end
mutual
theorem liT_ok (c : Int) (hc : 0 ≤ c) : ∀ (t : Tm) (K d : Int), okT RN RL t K = true → okT RN RL (liT c t d) (K + c) = true
 | .mk kd n nm ls ts, K, d, h => by
  rw [okT, Bool.and_eq_true] at h
  rw [liT, okT, Bool.and_eq_true, liTL_length]
  refine ⟨?_, liTL_ok c hc kd ts 0 K d h.2⟩
  by_cases h1 : kd = 1
  ·subst h1
   have hs := h.1
   unfold shape at hs ⊢
   rw [if_pos rfl] at hs ⊢
   simp only [Bool.and_eq_true, decide_eq_true_eq] at hs ⊢
   obtain ⟨q1, ⟨⟨⟨q2, q3⟩, q4⟩, q5⟩, q6⟩ := hs
   refine ⟨q1, ⟨⟨⟨?_, ?_⟩, q4⟩, q5⟩, q6⟩
   ·split <;> omega
   ·split <;> omega
  ·rw [if_neg (fun h => h1 h.1), shape_other RN RL h1 (K + c) K]
   exact h.1
theorem liTL_ok (c : Int) (hc : 0 ≤ c) (kd : Int) : ∀ (ts : List Tm) (i : Nat) (K d : Int), okTL RN RL kd ts i K = true → okTL RN RL kd (liTL c kd ts i d) i (K + c) = true
 | [], _, _, _, _ => by rw [liTL, okTL]
 | a :: ts, i, K, d, h => by
  rw [okTL, Bool.and_eq_true] at h
  rw [liTL, okTL, Bool.and_eq_true]
  have e : under kd i (K + c) = under kd i K + c := by
   unfold under
   split <;> omega
  rw [e]
  exact ⟨liT_ok c hc a _ _ h.1, liTL_ok c hc kd ts (i + 1) K d h.2⟩
end
theorem okT_mono {t : Tm} {k : Int} (h : okT RN RL t k = true) (hk : 0 ≤ k) (c : Int) (hc : 0 ≤ c) : okT RN RL t (k + c) = true := by
 have h1 := (okT_lo RN RL t k k 0 h hk).1 (by rw [Int.add_zero]; exact h)
 have h2 := (okT_lo RN RL t k (k + c) 0 h (by omega)).2 (by omega)
 rwa [Int.add_zero] at h2
def over (kd : Int) (f : Tm) : List Tm → Tm
 | [] => f
 | a :: ts => .mk kd 0 ⟨#[]⟩ [] [a, over kd f ts]
end Trm
end Go.Proofs.YteomfakbbcpckaaGreatDoor
namespace Go.Proofs.YteomfakbbcpckaaGreatDoor
open Go.RowKit
def SameTo (xs ys : List ByteArray) (k : Nat) : Prop := xs.take k = ys.take k
theorem SameTo.zero (xs ys : List ByteArray) : SameTo xs ys 0 := rfl
theorem SameTo.succ {xs ys : List ByteArray} {k : Nat} (h : SameTo xs ys k) (h1 : k < xs.length) (h2 : k < ys.length) (e : xs[k] = ys[k]) : SameTo xs ys (k + 1) := by
 unfold SameTo at h ⊢
 rw [List.take_add_one, List.take_add_one, h, List.getElem?_eq_getElem h1, List.getElem?_eq_getElem h2, e]
theorem SameTo.all {xs ys : List ByteArray} {k : Nat} (h : SameTo xs ys k) (h1 : ¬ k < xs.length) (hl : xs.length = ys.length) : xs = ys := by
 unfold SameTo at h
 rwa [List.take_of_length_le (by omega), List.take_of_length_le (by omega)] at h
def lensTo (xs : List ByteArray) (k : Nat) : Nat := ((xs.take k).map fun x => x.size + 1).sum
theorem lensTo_succ (xs : List ByteArray) (k : Nat) (h : k < xs.length) : lensTo xs (k + 1) = lensTo xs k + (1 + xs[k].size) := by
 unfold lensTo
 rw [List.take_add_one, List.getElem?_eq_getElem h, List.map_append, List.sum_append]
 simp only [Option.toList_some, List.map_cons, List.map_nil, List.sum_cons, List.sum_nil]
 omega
theorem lensTo_le (xs : List ByteArray) (k : Nat) : k ≤ xs.length → k ≤ lensTo xs k := by
 induction k with
 | zero => intro _; exact Nat.zero_le _
 | succ k ih => intro h; have := ih (by omega); rw [lensTo_succ xs k (by omega)]; omega
theorem lensTo_mem (xs : List ByteArray) (k : Nat) : k ≤ xs.length → ∀ j, j < k → ∀ h : j < xs.length, xs[j].size < lensTo xs k := by
 induction k with
 | zero => intro _ j hj; exact absurd hj (Nat.not_lt_zero _)
 | succ k ih =>
  intro hk j hj h
  rw [lensTo_succ xs k (by omega)]
  by_cases e : j = k
  ·subst e; omega
  ·have := ih (by omega) j (by omega) h
   omega
def LensRes (xs : List ByteArray) (most : Nat) (e : Ending) : Prop :=
 ∃ r : Nat, e = .returned (.int .i64 r) ∧ (r ≤ most → xs.length ≤ most ∧ ∀ x ∈ xs, x.size ≤ most)
theorem lensRes_over (xs : List ByteArray) (most r : Nat) (h : most < r) : LensRes xs most (.returned (.int .i64 r)) := ⟨r, rfl, fun h' => by omega⟩
theorem lensRes_all (xs : List ByteArray) (most k : Nat) (hk : ¬ k < xs.length) (h : k ≤ xs.length) : LensRes xs most (.returned (.int .i64 (lensTo xs k))) :=
 ⟨_, rfl, fun h' => ⟨by have := lensTo_le xs k h; omega, fun x hx => by
  obtain ⟨j, hj, rfl⟩ := List.getElem_of_mem hx
  have := lensTo_mem xs k h j (by omega) hj
  omega⟩⟩
end Go.Proofs.YteomfakbbcpckaaGreatDoor
