/-
  Levels in memory: a struct of a kind, a number and a slice of such structs; and the contract of the statements' helper LevelNodes.
  Conditions: each text's own.
-/
import Derived.Test.YteghldgopidhhaaMem
import Derived.Test.YteghldgopidhhaaLev
import Derived.BigQuiet
namespace Go.Proofs.Yteghldgopidhhaa
open Go.RowKit
open Lvl

abbrev kindOf : Lv → Int | .mk k _ _ => k
abbrev numOf : Lv → Int | .mk _ n _ => n
abbrev argsOf : Lv → List Lv | .mk _ _ ts => ts
mutual
/-- The slice s holds the level's arguments. -/
def LvS (w : World) : Lv → Value → Prop
  | .mk _ _ ts, s => ∃ A len cap, s = .slice A len cap ∧ ts.length = len ∧ len ≤ cap ∧ len ≤ 140737488355328 ∧ (A = none → cap = 0) ∧ LsV w A 0 ts
/-- From its j-th place on, the slice at A holds these levels. -/
def LsV (w : World) : Option Addr → Nat → List Lv → Prop
  | _, _, [] => True
  | A, j, a :: ts => (∃ b o s, A = some ⟨b, o, none⟩ ∧ b < w.heap.size ∧ w.cell? ⟨b, o + j * 3, none⟩ = some (.int .i64 (kindOf a)) ∧ w.cell? ⟨b, o + j * 3 + 1, none⟩ = some (.int .i64 (numOf a)) ∧ w.cell? ⟨b, o + j * 3 + 2, none⟩ = some s ∧ LvS w a s) ∧ LsV w A (j + 1) ts
end
/-- The level as a value. -/
def LvV (w : World) (t : Lv) (v : Value) : Prop := ∃ s, v = .agg #[.int .i64 (kindOf t), .int .i64 (numOf t), s] ∧ LvS w t s
mutual
theorem lvS_below {w w' : World} (hb : Below w.heap.size w w') : ∀ (t : Lv) (s : Value), LvS w t s → LvS w' t s
  | .mk k n ts, s, h => by
    rw [LvS] at h ⊢
    obtain ⟨A, len, cap, e, h1, h2, h2b, h3, h4⟩ := h
    exact ⟨A, len, cap, e, h1, h2, h2b, h3, lsV_below hb A 0 ts h4⟩
theorem lsV_below {w w' : World} (hb : Below w.heap.size w w') : ∀ (A : Option Addr) (j : Nat) (ts : List Lv), LsV w A j ts → LsV w' A j ts
  | _, _, [], _ => by rw [LsV]; trivial
  | A, j, a :: ts, h => by
    rw [LsV] at h ⊢
    obtain ⟨⟨b, o, s, e, h1, h2, h3, h4, h5⟩, h6⟩ := h
    exact ⟨⟨b, o, s, e, Nat.lt_of_lt_of_le h1 hb.size, (hb.cell (p := ⟨b, _, none⟩) h1).trans h2, (hb.cell (p := ⟨b, _, none⟩) h1).trans h3, (hb.cell (p := ⟨b, _, none⟩) h1).trans h4, lvS_below hb a s h5⟩, lsV_below hb A (j + 1) ts h6⟩
end
theorem LvV.below {w w' : World} {t : Lv} {v : Value} (h : LvV w t v) (hb : Below w.heap.size w w') : LvV w' t v := by
  obtain ⟨s, e, h⟩ := h
  exact ⟨s, e, lvS_below hb t s h⟩
theorem lsV_at {w : World} : ∀ {A : Option Addr} {ts : List Lv} {j : Nat}, LsV w A j ts → ∀ i (h : i < ts.length), ∃ b o s, A = some ⟨b, o, none⟩ ∧ b < w.heap.size ∧ w.cell? ⟨b, o + (j + i) * 3, none⟩ = some (.int .i64 (kindOf ts[i])) ∧ w.cell? ⟨b, o + (j + i) * 3 + 1, none⟩ = some (.int .i64 (numOf ts[i])) ∧ w.cell? ⟨b, o + (j + i) * 3 + 2, none⟩ = some s ∧ LvS w ts[i] s
  | A, a :: ts, j, h, 0, _ => by
    rw [LsV] at h
    exact h.1
  | A, a :: ts, j, h, i + 1, hi => by
    rw [LsV] at h
    have := lsV_at h.2 i (by simpa using hi)
    rw [show j + 1 + i = j + (i + 1) by omega] at this
    exact this

theorem lsV_get {w : World} {A : Option Addr} {ts : List Lv} (h : LsV w A 0 ts) (i : Nat) (hi : i < ts.length) : ∃ b o s, A = some ⟨b, o, none⟩ ∧ b < w.heap.size ∧ w.cell? ⟨b, o + i * 3, none⟩ = some (.int .i64 (kindOf ts[i])) ∧ w.cell? ⟨b, o + i * 3 + 1, none⟩ = some (.int .i64 (numOf ts[i])) ∧ w.cell? ⟨b, o + i * 3 + 2, none⟩ = some s ∧ LvS w ts[i] s := by
  have := lsV_at h i hi
  rw [Nat.zero_add] at this
  exact this
/-- So many are counted, if not too many. -/
def CntTo (most j acc : Nat) (ts : List Lv) : Prop := min acc (most + 1) = min (1 + nodesL (ts.take j)) (most + 1) ∧ acc ≤ 2 * most + 2
theorem nodesL_take {ts : List Lv} {j : Nat} (h : j < ts.length) : nodesL (ts.take (j + 1)) = nodesL (ts.take j) + nodes ts[j] := by
  rw [List.take_add_one, List.getElem?_eq_getElem h, nodesL_append]
  simp [nodesL]
theorem nodesL_le (ts : List Lv) (j : Nat) : nodesL (ts.take j) ≤ nodesL ts := by
  have := nodesL_append (ts.take j) (ts.drop j)
  rw [List.take_append_drop] at this
  omega

theorem box_cells (w : World) (x y z : Value) (T : TypeId) : (w.alloc (.cells #[x, y, z] T)).cell? ⟨w.heap.size, 0, none⟩ = some x ∧ (w.alloc (.cells #[x, y, z] T)).cell? ⟨w.heap.size, 1, none⟩ = some y ∧ (w.alloc (.cells #[x, y, z] T)).cell? ⟨w.heap.size, 2, none⟩ = some z :=
  ⟨cell_of_row _ w.heap.size 0 #[x, y, z] T (0, 0) (heap_alloc_new w _), cell_of_row _ w.heap.size 1 #[x, y, z] T (0, 0) (heap_alloc_new w _), cell_of_row _ w.heap.size 2 #[x, y, z] T (0, 0) (heap_alloc_new w _)⟩

set_option maxRecDepth 100000 in
set_option maxHeartbeats 1000000 in
theorem levelNodes_up (most : Nat) (hm : most ≤ 1000) : ∀ (N : Nat) (t : Lv) (v : Value) (w : World), nodes t ≤ N → LvV w t v →
    Calls Try.prog 22 #[v, .int .i64 most] w (Ret w (.int .i64 (min (nodes t) (most + 1) : Nat))) := by
  intro N
  induction N with
  | zero => intro t v w h _; have := nodes_pos t; omega
  | succ N ih =>
  intro t v w hN hv
  obtain ⟨s, rfl, hs⟩ := hv
  cases t with
  | mk k n ts =>
  rw [LvS] at hs
  obtain ⟨A, len, cap, rfl, h1, h2, h2b, h3, h4⟩ := hs
  have IH := Lib.hid ih
  have HS := Lib.hid h4
  have HN := Lib.hid h1
  have HNN : Hid (nodesL ts ≤ N) := by
    rw [nodes] at hN
    have : nodesL ts ≤ N := by omega
    exact this
  obtain ⟨R, hR⟩ : ∃ R, min (nodes (.mk k n ts)) (most + 1) = R := ⟨_, rfl⟩
  have HR : Hid (min (1 + nodesL ts) (most + 1) = R) := by rw [nodes] at hR; exact hR
  rw [hR]
  clear h4 h1 h3 hN hR ih
  go_enter Try.func22, Try.ntmps22
  go_wp2_with fail
  obtain ⟨_, _, hbox⟩ := box_cells w (.int .i64 (kindOf (Lv.mk k n ts))) (.int .i64 (numOf (Lv.mk k n ts))) (.slice A len cap) 24
  have HB := Lib.hid (below_lit w (.cells #[.int .i64 (kindOf (Lv.mk k n ts)), .int .i64 (numOf (Lv.mk k n ts)), .slice A len cap] 24))
  have hsz : w.heap.size < (w.alloc (.cells #[.int .i64 (kindOf (Lv.mk k n ts)), .int .i64 (numOf (Lv.mk k n ts)), .slice A len cap] 24)).heap.size := by simp
  generalize w.alloc (.cells #[.int .i64 (kindOf (Lv.mk k n ts)), .int .i64 (numOf (Lv.mk k n ts)), .slice A len cap] 24) = W at *
  have HBX := Lib.hid hbox
  clear hbox
  go_loopw [5, 6] (fun c i wr => ∃ j acc : Nat, j ≤ len ∧ i = .int .i64 j ∧ c = .int .i64 acc ∧ Hid (CntTo most j acc ts) ∧ acc ≤ 2 * most + 2 ∧ Below W.heap.size W wr) (fun _ i _ => len - (intOf i).toNat)
  case atStart => exact ⟨0, 1, Nat.zero_le _, rfl, rfl, ⟨by simp [nodesL], by omega⟩, by omega, Below.refl _ _⟩
  case round =>
    obtain ⟨j, acc, hj, rfl, rfl, hc, ha, hb⟩ := hrel
    have HBW := Lib.hid hb
    have hbox := (hb.cell (p := ⟨w.heap.size, 2, none⟩) hsz).trans HBX.out
    have hsz2 : w.heap.size < wr.heap.size := Nat.lt_of_lt_of_le hsz hb.size
    have HSW := Lib.hid (lsV_below (HB.out.trans (hb.mono HB.out.size)) _ _ _ HS.out)
    clear hb
    by_cases hlt : j < len
    · have hx1 : j < ts.length := by rw [HN.out]; exact hlt
      have hln : decide ((j : Int) < (len : Int)) = true := by simp; omega
      by_cases hmo : acc ≤ most
      · have hd : decide ((acc : Int) ≤ (most : Int)) = true := by simp; omega
        obtain ⟨b, o, s, rfl, hb, hc0, hc1, hc2, hls⟩ := lsV_get HSW.out j hx1
        have hlt2 := Nat.lt_of_lt_of_le hb (Nat.le_refl _)
        have HLS : Hid (LvV wr ts[j] (.agg #[.int .i64 (kindOf ts[j]), .int .i64 (numOf ts[j]), s])) := ⟨s, rfl, hls⟩
        have HTN : Hid (nodes ts[j] ≤ N) := Nat.le_trans (nodes_mem (List.getElem_mem hx1)) HNN.out
        have HNT := Lib.hid (nodesL_take hx1)
        generalize kindOf ts[j] = ki at *
        generalize numOf ts[j] = nu at *
        generalize ts[j] = tj at *
        clear hls hlt2
        go_wp2_with fail
        refine (IH.out tj _ wr HTN.out HLS.out).mono ?_
        rintro e w2 ⟨rfl, hb2⟩
        obtain ⟨q, hq⟩ : ∃ q, min (nodes tj) (most + 1) = q := ⟨_, rfl⟩
        have hq2 : q ≤ most + 1 := by omega
        have HC2 : Hid (CntTo most (j + 1) (acc + q) ts) := by
          obtain ⟨h1, h2⟩ := hc.out
          refine ⟨?_, by omega⟩
          rw [HNT.out, ← hq]
          omega
        have HBW2 := Lib.hid (HBW.out.trans (hb2.mono HBW.out.size))
        rw [hq]
        clear hb2 hq HNT HTN HLS
        go_wp2_with fail
        go_roundw
        case rel => exact ⟨j + 1, acc + q, by omega, by go_num, by go_num, HC2, by omega, HBW2.out⟩
        case measure => simp [intOf]; omega
      · have hd : decide ((acc : Int) ≤ (most : Int)) = false := by simp; omega
        have HF : Hid (R = most + 1) := by
          obtain ⟨h1, _⟩ := hc.out
          have h2 := nodesL_le ts j
          have h3 := HR.out
          have : R = most + 1 := by omega
          exact this
        by_cases hmo1 : acc = most + 1
        · have HF2 : Hid (R = acc) := HF.out.trans hmo1.symm
          have hmi : (acc : Int) ≤ (most : Int) + 1 := by omega
          clear hmo1
          go_wp2_with fail
          go_ret
          exact ⟨by rw [HF2.out]; rfl, HB.out.trans (HBW.out.mono HB.out.size)⟩
        · have hmi : (most : Int) + 1 < (acc : Int) := by omega
          go_wp2_with fail
          go_ret
          exact ⟨by rw [HF.out]; rfl, HB.out.trans (HBW.out.mono HB.out.size)⟩
    · have hln : decide ((j : Int) < (len : Int)) = false := by simp; omega
      have HF : Hid (R = min acc (most + 1)) := by
        obtain ⟨h1, _⟩ := hc.out
        rw [List.take_of_length_le (by rw [HN.out]; omega)] at h1
        have h3 := HR.out
        have : R = min acc (most + 1) := by omega
        exact this
      by_cases hmo : acc ≤ most + 1
      · have hmi : (acc : Int) ≤ (most : Int) + 1 := by omega
        have HF2 : Hid (R = acc) := by
          have := HF.out
          have : R = acc := by omega
          exact this
        go_wp2_with fail
        go_ret
        exact ⟨by rw [HF2.out]; rfl, HB.out.trans (HBW.out.mono HB.out.size)⟩
      · have hmi : (most : Int) + 1 < (acc : Int) := by omega
        have HF2 : Hid (R = most + 1) := by
          have := HF.out
          have : R = most + 1 := by omega
          exact this
        go_wp2_with fail
        go_ret
        exact ⟨by rw [HF2.out]; rfl, HB.out.trans (HBW.out.mono HB.out.size)⟩
theorem levelNodes_is (t : Lv) (v : Value) (most : Nat) (w : World) (hv : LvV w t v) (hm : most ≤ 1000) (R : Nat) (hR : min (nodes t) (most + 1) = R) :
    Calls Try.prog 22 #[v, .int .i64 most] w (Ret w (.int .i64 R)) := by
  subst hR
  exact levelNodes_up most hm (nodes t) t v w (Nat.le_refl _) hv
end Go.Proofs.Yteghldgopidhhaa
