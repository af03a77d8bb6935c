/-
  The contracts of the statements' own helpers over lists of texts: SameTexts returns whether two lists are one, Lengths returns at most 'most' only if the list has at most so many texts and bytes.
  Conditions: the lists lie in memory as told by 'Txt'.
-/
import Derived.Test.YtgjjaalojelmhaaRows
import Derived.WalkKit
import Derived.WalkSpells
import Derived.WalkLawsBesides
import Derived.Deep.QuietTactic
import Derived.BigQuiet
import Derived.Deep.Draws
import Derived.Lib.Hide
namespace Go.Proofs.Ytgjjaalojelmhaa
open Go.RowKit

/-- The list at address A holds the texts xs. -/
def Txt (w : World) (A : Option Addr) (xs : List ByteArray) : Prop :=
  xs ≠ [] → ∃ b o, A = some ⟨b, o, none⟩ ∧ b < w.heap.size ∧ ∀ j x, xs[j]? = some x → w.cell? ⟨b, o + j, none⟩ = some (.string x)

theorem Txt.below {w w' : World} {A : Option Addr} {xs : List ByteArray} (h : Txt w A xs) (hb : Below w.heap.size w w') : Txt w' A xs := fun hne => by
  obtain ⟨b, o, rfl, hlt, hc⟩ := h hne
  exact ⟨b, o, rfl, Nat.lt_of_lt_of_le hlt hb.size, fun j x hx => (hb.cell (p := ⟨b, o + j, none⟩) hlt).trans (hc j x hx)⟩
theorem Txt.at_ {w : World} {A : Option Addr} {xs : List ByteArray} (h : Txt w A xs) {k : Nat} (hk : k < xs.length) :
    ∃ b o, A = some ⟨b, o, none⟩ ∧ w.cell? ⟨b, o + k, none⟩ = some (.string xs[k]) := by
  obtain ⟨b, o, rfl, _, hc⟩ := h (by intro e; subst e; exact absurd hk (Nat.not_lt_zero _))
  exact ⟨b, o, rfl, hc k _ (List.getElem?_eq_getElem hk)⟩
theorem quietBelow (w : World) (q : Nat) : Below w.heap.size w (w.drewN q) := ⟨rfl, rfl, rfl, Nat.le_refl _, fun _ _ => rfl⟩

theorem bytes_inj {x y : ByteArray} (h : x.toList = y.toList) : x = y := by
  rw [ByteArray.toList_eq, ByteArray.toList_eq] at h
  cases x; cases y
  exact congrArg ByteArray.mk (Array.toList_inj.1 h)
theorem bytes_eqb (x y : ByteArray) : (x.toList == y.toList) = decide (x = y) := by
  by_cases h : x = y
  · subst h; simp
  · rw [decide_eq_false h, beq_eq_false_iff_ne]; exact fun e => h (bytes_inj e)

/-- As far as k the two lists are one. -/
def SameTo (xs ys : List ByteArray) (k : Nat) : Prop := xs.take k = ys.take k
theorem SameTo.zero (xs ys : List ByteArray) : SameTo xs ys 0 := rfl
theorem SameTo.succ {xs ys : List ByteArray} {k : Nat} (h : SameTo xs ys k) (h1 : k < xs.length) (h2 : k < ys.length) (e : xs[k] = ys[k]) : SameTo xs ys (k + 1) := by
  unfold SameTo at h ⊢
  rw [List.take_add_one, List.take_add_one, h, List.getElem?_eq_getElem h1, List.getElem?_eq_getElem h2, e]
theorem SameTo.all {xs ys : List ByteArray} {k : Nat} (h : SameTo xs ys k) (h1 : ¬ k < xs.length) (hl : xs.length = ys.length) : xs = ys := by
  unfold SameTo at h
  rwa [List.take_of_length_le (by omega), List.take_of_length_le (by omega)] at h

theorem same_bool {xs ys : List ByteArray} (h : xs = ys) : Ending.returned (.bool true) = .returned (.bool (decide (xs = ys))) := by rw [decide_eq_true h]
theorem differ_bool {xs ys : List ByteArray} (h : xs ≠ ys) : Ending.returned (.bool false) = .returned (.bool (decide (xs = ys))) := by rw [decide_eq_false h]

set_option maxHeartbeats 400000 in
theorem sameTexts_len (A A' : Option Addr) (c c' n : Nat) (xs ys : List ByteArray) (w : World) (hx : Txt w A xs) (hy : Txt w A' ys) (hn : n ≤ 140737488355328) (Hx : Hid (xs.length = n)) (Hy : Hid (ys.length = n)) :
    Calls Try.prog 25 #[.slice A n c, .slice A' n c'] w fun e w' => e = .returned (.bool (decide (xs = ys))) ∧ ∃ q, w' = w.drewN q := by
  have HX := Lib.hid hx
  have HY := Lib.hid hy
  clear hx hy
  go_enter Try.func25, Try.ntmps25
  go_wp2
  go_loopw [5] (fun i wr => ∃ k : Nat, k ≤ n ∧ i = .int .i64 k ∧ SameTo xs ys k ∧ ∃ q, wr = w.drewN q) (fun i _ => n - (intOf i).toNat)
  case atStart => exact ⟨0, Nat.zero_le _, rfl, SameTo.zero _ _, 0, rfl⟩
  case round =>
    obtain ⟨k, hk, rfl, hs, q, rfl⟩ := hrel
    have HS := Lib.hid hs
    clear hs
    by_cases hlt : k < n
    · have hx1 : k < xs.length := by rw [Hx.out]; exact hlt
      have hy1 : k < ys.length := by rw [Hy.out]; exact hlt
      obtain ⟨b, o, rfl, hc⟩ := HX.out.at_ hx1
      obtain ⟨b', o', rfl, hc'⟩ := HY.out.at_ hy1
      by_cases he : xs[k] = ys[k]
      · have HS' := Lib.hid (HS.out.succ hx1 hy1 he)
        have h0 : (0 : Int) ≤ (k : Int) := by omega
        have hln : (k : Int) < (n : Int) := by omega
        generalize xs[k] = x at *
        generalize ys[k] = y at *
        subst he
        clear hx1 hy1 HS
        go_wp2
        go_quiet (fail)
        go_wp2
        go_roundw
        case rel => exact ⟨k + 1, by omega, by go_num, HS'.out, _, rfl⟩
        case measure => simp [intOf]; omega
      · have HD := Lib.hid (show xs ≠ ys by intro e; subst e; exact he rfl)
        have h0 : (0 : Int) ≤ (k : Int) := by omega
        have hln : (k : Int) < (n : Int) := by omega
        generalize xs[k] = x at *
        generalize ys[k] = y at *
        have hne : (!(x.toList == y.toList)) = true := by rw [bytes_eqb, decide_eq_false he]; rfl
        clear hx1 hy1 HS he
        go_wp2
        go_quiet (fail)
        go_wp2
        go_ret
        exact ⟨differ_bool HD.out, _, by rw [World.drewN_drewN]⟩
    · have HE := Lib.hid (HS.out.all (by rw [Hx.out]; exact hlt) (Hx.out.trans Hy.out.symm))
      go_wp2
      go_ret
      exact ⟨same_bool HE.out, q, rfl⟩

theorem sameTexts_any (A A' : Option Addr) (c c' : Nat) (xs ys : List ByteArray) (w : World) (hx : Txt w A xs) (hy : Txt w A' ys) (hlx : xs.length ≤ 140737488355328) :
    Calls Try.prog 25 #[.slice A xs.length c, .slice A' ys.length c'] w fun e w' => e = .returned (.bool (decide (xs = ys))) ∧ ∃ q, w' = w.drewN q := by
  by_cases hl : xs.length = ys.length
  · rw [← hl]
    exact sameTexts_len A A' c c' xs.length xs ys w hx hy hlx rfl hl.symm
  · go_enter Try.func25, Try.ntmps25
    go_wp2
    go_ret
    exact ⟨differ_bool (fun e => hl (by rw [e])), 0, rfl⟩

/-- The lengths of the first k texts, each one more. -/
def lensTo (xs : List ByteArray) (k : Nat) : Nat := ((xs.take k).map fun x => x.size + 1).sum
theorem lensTo_succ (xs : List ByteArray) (k : Nat) (h : k < xs.length) : lensTo xs (k + 1) = lensTo xs k + (1 + xs[k].size) := by
  unfold lensTo
  rw [List.take_add_one, List.getElem?_eq_getElem h, List.map_append, List.sum_append]
  simp only [Option.toList_some, List.map_cons, List.map_nil, List.sum_cons, List.sum_nil]
  omega
theorem lensTo_le (xs : List ByteArray) (k : Nat) : k ≤ xs.length → k ≤ lensTo xs k := by
  induction k with
  | zero => intro _; exact Nat.zero_le _
  | succ k ih => intro h; have := ih (by omega); rw [lensTo_succ xs k (by omega)]; omega
theorem lensTo_mem (xs : List ByteArray) (k : Nat) : k ≤ xs.length → ∀ j, j < k → ∀ h : j < xs.length, xs[j].size < lensTo xs k := by
  induction k with
  | zero => intro _ j hj; exact absurd hj (Nat.not_lt_zero _)
  | succ k ih =>
    intro hk j hj h
    rw [lensTo_succ xs k (by omega)]
    by_cases e : j = k
    · subst e; omega
    · have := ih (by omega) j (by omega) h
      omega

/-- What Lengths answers says: above 'most', or so many texts and so many bytes. -/
def LensRes (xs : List ByteArray) (most : Nat) (e : Ending) : Prop :=
  ∃ r : Nat, e = .returned (.int .i64 r) ∧ (r ≤ most → xs.length ≤ most ∧ ∀ x ∈ xs, x.size ≤ most)
theorem lensRes_over (xs : List ByteArray) (most r : Nat) (h : most < r) : LensRes xs most (.returned (.int .i64 r)) := ⟨r, rfl, fun h' => by omega⟩
theorem lensRes_all (xs : List ByteArray) (most k : Nat) (hk : ¬ k < xs.length) (h : k ≤ xs.length) : LensRes xs most (.returned (.int .i64 (lensTo xs k))) :=
  ⟨_, rfl, fun h' => ⟨by have := lensTo_le xs k h; omega, fun x hx => by
    obtain ⟨j, hj, rfl⟩ := List.getElem_of_mem hx
    have := lensTo_mem xs k h j (by omega) hj
    omega⟩⟩

set_option maxHeartbeats 400000 in
theorem lengths_any (A : Option Addr) (c n : Nat) (xs : List ByteArray) (w : World) (hx : Txt w A xs) (hn : n ≤ 140737488355328) (Hx : Hid (xs.length = n)) (hs : ∀ x ∈ xs, x.size ≤ 140737488355328) :
    Calls Try.prog 26 #[.slice A n c, .int .i64 2000] w fun e w' => LensRes xs 2000 e ∧ w = w' := by
  have HX := Lib.hid hx
  have HSZ := Lib.hid hs
  clear hx hs
  by_cases hmany : 2000 < n
  · go_enter Try.func26, Try.ntmps26
    go_wp2
    go_ret
    exact ⟨lensRes_over xs 2000 2001 (by omega), rfl⟩
  · go_enter Try.func26, Try.ntmps26
    go_wp2
    go_loop [5, 6] (fun t i => ∃ k : Nat, k ≤ n ∧ i = .int .i64 k ∧ ∃ T : Nat, t = .int .i64 T ∧ T = lensTo xs k ∧ T ≤ 2001 + 140737488355328) (fun _ i => n - (intOf i).toNat)
    case atStart => exact ⟨0, Nat.zero_le _, rfl, 0, rfl, rfl, by omega⟩
    case round =>
      obtain ⟨k, hk, rfl, T, rfl, hT, hb⟩ := hrel
      have HT := Lib.hid hT
      clear hT
      by_cases hlt : k < n
      · by_cases hle : T ≤ 2000
        · have hx1 : k < xs.length := by rw [Hx.out]; exact hlt
          obtain ⟨b, o, rfl, hc⟩ := HX.out.at_ hx1
          have hsz : xs[k].size ≤ 140737488355328 := HSZ.out _ (List.getElem_mem hx1)
          have HT' := Lib.hid ((lensTo_succ xs k hx1).trans (by rw [← HT.out]))
          generalize xs[k] = x at *
          have h0 : (0 : Int) ≤ (k : Int) := by omega
          have hln : (k : Int) < (n : Int) := by omega
          have hmd : decide ((T : Int) ≤ 2000) = true := by simp; omega
          clear hx1
          go_wp2
          go_round
          case rel => exact ⟨k + 1, by omega, by go_num, T + (1 + x.size), by go_num, HT'.out.symm, by omega⟩
          case measure => simp [intOf]; omega
        · have hmd : decide ((T : Int) ≤ 2000) = false := by simp; omega
          go_wp2
          go_ret
          exact ⟨lensRes_over xs 2000 T (by omega), rfl⟩
      · have HE := Lib.hid (lensRes_all xs 2000 k (by rw [Hx.out]; exact hlt) (by rw [Hx.out]; exact hk))
        rw [← HT.out] at HE
        go_wp2
        go_ret
        exact ⟨HE.out, rfl⟩
end Go.Proofs.Ytgjjaalojelmhaa
