import Derived.Shelf.SlicesQ.Reverse
import Derived.Test.YtbkdecgfiiajnaaGreatDoorJ10
/-
  The contract of slices.Reverse over terms: a row of one's own, turned around in place.
  Conditions: the row is one's own ('OwnT').
-/
namespace Go.Proofs.YtbkdecgfiiajnaaGreatDoor
open Go.RowKit
open Lvl
namespace Trm
def rev_ren : Go.Shelf.Ren := ⟨fun | 35 => 44 | n => n, fun | 22 => 23 | 23 => 25 | 3 => 3 | 4 => 4 | n => n, fun | n => n⟩
theorem rev_lays : Go.Proofs.SlLaysE0.n35 Tryz.prog rev_ren := {
  mixed := by kernel_rfl
  f35 := ⟨"slices.Reverse[[]scholium/api.Term,scholium/api.Term]", by decide, Tryz.func44.trans (congrArg some (by kernel_rfl))⟩
  t0 := Tryz.underlying0
  a0 := Tryz.isAgg0
  z0 := Tryz.sizeOf0
  v0 := Tryz.zeroValue0
  t3 := Tryz.underlying3
  a3 := Tryz.isAgg3
  z3 := Tryz.sizeOf3
  v3 := Tryz.zeroValue3
  t4 := Tryz.underlying4
  a4 := Tryz.isAgg4
  z4 := Tryz.sizeOf4
  v4 := Tryz.zeroValue4
  t22 := Tryz.underlying23
  a22 := Tryz.isAgg23
  z22 := Tryz.sizeOf23
  v22 := Tryz.zeroValue23 }
instance : Inhabited Tm := ⟨.mk 0 0 ⟨#[]⟩ [] []⟩
def asSl : Value → Value | .slice a l c => .slice a l c | _ => .slice none 0 0
theorem asSl_one (v : Value) : (asSl v).oneCell' = true := by cases v <;> rfl
abbrev Tw := Tm × Value × Value
def enc5 (x : Tw) : List Value := [.int .i64 (tkOf x.1), .int .i64 (tnOf x.1), .string (tmOf x.1), asSl x.2.1, asSl x.2.2]
theorem enc5_one (x : Tw) : ∀ v ∈ enc5 x, v.oneCell' = true := five_oneCell (asSl_one _) (asSl_one _)
theorem asSl_tm {w : World} {P : Nat → Prop} {t : Tm} {l s : Value} (h : TmP w P t l s) : asSl l = l ∧ asSl s = s := by
  obtain ⟨⟨a, n, c, rfl⟩, a', n', c', rfl⟩ := tmP_slices h
  exact ⟨rfl, rfl⟩
theorem bang_of {α : Type} [Inhabited α] {l : List α} {i : Nat} {a : α} (h : l[i]? = some a) : l[i]! = a := by
  rw [List.getElem!_eq_getElem?_getD, h]
  rfl
/-- An own row as pairs. -/
theorem ownT_pairs {w : World} {base g len cap : Nat} {ts : List Tm} (h : OwnT w base (.slice (some ⟨g, 0, none⟩) len cap) ts) (hl : ts.length = len) :
    ∃ ps : List Tw, ps.map Prod.fst = ts ∧ base ≤ g ∧ g < w.heap.size ∧ Go.Sort.HoldsK enc5 5 w g 0 ps.toArray ∧ ∀ p ∈ ps, TmP w (fun b => base ≤ b ∧ b ≠ g) p.1 p.2.1 p.2.2 := by
  obtain ⟨ss, hls, ho, hk⟩ := h
  rw [hl] at ho
  obtain ⟨hbg, hgl⟩ := own_lt ho g rfl
  have hfz : ∀ j, w.frozen? ⟨g, j, none⟩ = false := by
    rcases ho.2 with ⟨h1, _⟩ | ⟨g', cap', cur, h1, _, hg, _⟩
    · cases h1
    · cases h1
      exact fun j => frozen0 hg
  have hzl : (ts.zip ss).length = len := by rw [List.length_zip, ← hls, hl]; omega
  refine ⟨ts.zip ss, List.map_fst_zip (by omega), hbg, hgl, fun t ht => ⟨?_, hfz _⟩, fun p hp => ?_⟩
  · rw [Go.Sort.size_flatK] at ht
    have ht2 : t < len * 5 := by rw [List.size_toArray, hzl] at ht; exact ht
    rw [Go.Sort.get_flatK _ _ _ _ ht]
    show w.cell? ⟨g, 0 + t, none⟩ = some _
    rw [Nat.zero_add, ho.cellAt t ht2]
    obtain ⟨i, c, hc, rfl⟩ : ∃ i c, c < 5 ∧ t = i * 5 + c := ⟨t / 5, t % 5, Nat.mod_lt _ (by omega), by omega⟩
    have hi : i < len := by omega
    have h1 : i < ts.length := by omega
    have h2 : i < ss.length := by omega
    have e1 : (i * 5 + c) / 5 = i := by omega
    have e2 : (i * 5 + c) % 5 = c := by omega
    rw [e1, e2]
    have e3 : ((ts.zip ss).toArray)[i]! = (ts[i], ss[i]) := by
      rw [getElem!_pos _ i (by rw [List.size_toArray, hzl]; exact hi), List.getElem_toArray, List.getElem_zip]
    rw [e3]
    obtain ⟨c0, c1, c2, c3, c4⟩ := cells5_get ts ss i h1 h2
    have hs := asSl_tm (hk i h1 h2)
    have : c = 0 ∨ c = 1 ∨ c = 2 ∨ c = 3 ∨ c = 4 := by omega
    rcases this with rfl | rfl | rfl | rfl | rfl
    · rw [Nat.add_zero, c0]; rfl
    · rw [c1]; rfl
    · rw [c2]; rfl
    · rw [c3]; show some _ = some (asSl ss[i].1); rw [hs.1]
    · rw [c4]; show some _ = some (asSl ss[i].2); rw [hs.2]
  · obtain ⟨i, hi, rfl⟩ := List.getElem_of_mem hp
    rw [List.getElem_zip]
    rw [hzl] at hi
    refine tmP_weak (fun b hb => ⟨hb.1, fun e => hb.2 (by rw [e]; rfl)⟩) (hk i (by omega) (by omega))
/-- Pairs in cells as a row of terms. -/
theorem pairs_tsP {w : World} {base g : Nat} {ps : List Tw} (hg : g < w.heap.size) (hb : base ≤ g) (hH : Go.Sort.HoldsK enc5 5 w g 0 ps.toArray) (hk : ∀ p ∈ ps, TmP w (fun b => base ≤ b ∧ b ≠ g) p.1 p.2.1 p.2.2) : TsP w (fun b => base ≤ b) (some ⟨g, 0, none⟩) 0 (ps.map Prod.fst) := by
  refine tsP_of _ 0 fun i hi => ?_
  have hi2 : i < ps.length := by rw [List.length_map] at hi; exact hi
  have hi3 : i < ps.toArray.size := by rw [List.size_toArray]; exact hi2
  have e3 : (ps.toArray)[i]! = ps[i] := by rw [getElem!_pos _ i hi3, List.getElem_toArray]
  have hp := hk _ (List.getElem_mem hi2)
  obtain ⟨hs1, hs2⟩ := asSl_tm hp
  have q0 := (hH.cell hi3 (c := 0) (by omega)).1
  have q1 := (hH.cell hi3 (c := 1) (by omega)).1
  have q2 := (hH.cell hi3 (c := 2) (by omega)).1
  have q3 := (hH.cell hi3 (c := 3) (by omega)).1
  have q4 := (hH.cell hi3 (c := 4) (by omega)).1
  rw [e3] at q0 q1 q2 q3 q4
  rw [List.getElem_map, Nat.zero_add]
  refine ⟨g, 0, ps[i].2.1, ps[i].2.2, rfl, hg, hb, q0, q1, q2, q3.trans ?_, q4.trans ?_, tmP_weak (fun b h => h.1) hp⟩
  · show some (asSl _) = _; rw [hs1]
  · show some (asSl _) = _; rw [hs2]
theorem putRow_far (w : World) (n g b : Nat) (ps : Array Tw) (h : b ≠ g) : (Go.Sort.putRowK enc5 5 (Go.Sort.ahead w n) g 0 ps).heap[b]? = w.heap[b]? := by
  simp [Go.Sort.putRowK, Go.Sort.putRow, Go.Sort.mapBlock, Go.Sort.ahead, Array.getElem?_modify, show g ≠ b from fun e => h e.symm]
theorem putRow_sz (w : World) (n g : Nat) (ps : Array Tw) : (Go.Sort.putRowK enc5 5 (Go.Sort.ahead w n) g 0 ps).heap.size = w.heap.size := by
  simp [Go.Sort.putRowK, Go.Sort.putRow, Go.Sort.mapBlock, Go.Sort.ahead]
set_option maxHeartbeats 1000000 in
theorem rev_is (base g len cap : Nat) (ts : List Tm) (w : World) (h : OwnT w base (.slice (some ⟨g, 0, none⟩) len cap) ts) (hl : ts.length = len) (hm : len ≤ 140737488355328) :
    Calls Tryz.prog 44 #[.slice (some ⟨g, 0, none⟩) len cap] w (fun e w' => e = .returned (.tuple #[]) ∧ TsP w' (fun b => base ≤ b) (some ⟨g, 0, none⟩) 0 ts.reverse ∧ w.grownBy w' (some g) ∧ base ≤ g) := by
  obtain ⟨ps, hps, hbg, hgl, hH, hk⟩ := ownT_pairs h hl
  have hsz : ps.toArray.size = len := by rw [List.size_toArray, ← hl, ← hps, List.length_map]
  have := Go.Proofs.AnyQ.slices_Reverse rev_lays 5 Tryz.isAgg25 Tryz.sizeOf25 enc5 (fun _ => rfl) enc5_one g 0 cap ps.toArray w hH (by omega)
  rw [hsz] at this
  refine this.mono ?_
  rintro e w' ⟨rfl, n, rfl⟩
  have hH2 := Go.Sort.holdsK_putRowK enc5 5 (Go.Sort.ahead w n) g 0 ps.toArray ps.toArray.reverse (Go.Sort.holdsK_ahead enc5 5 w n g 0 _ hH) (by simp)
  rw [List.reverse_toArray] at hH2 ⊢
  refine ⟨rfl, ?_, ⟨rfl, rfl, rfl, Nat.le_of_eq (putRow_sz w n g _).symm, fun b _ hb => putRow_far w n g b _ (fun e => hb (by rw [e]))⟩, hbg⟩
  have hr := pairs_tsP (ps := ps.reverse) (by rw [putRow_sz]; exact hgl) hbg hH2 (fun p hp => tmP_move (fun b _ hb => ⟨hb, putRow_far w n g b _ hb.2⟩) (Nat.le_of_eq (putRow_sz w n g _).symm) _ _ _ (hk p (List.mem_reverse.1 hp)))
  rw [List.map_reverse, hps] at hr
  exact hr
theorem rev_none (a : Option Addr) (cap : Nat) (w : World) : Calls Tryz.prog 44 #[.slice a 0 cap] w (fun e w' => e = .returned (.tuple #[]) ∧ w' = w) :=
  Go.Proofs.AnyQ.slices_Reverse_empty rev_lays a cap w
end Trm
end Go.Proofs.YtbkdecgfiiajnaaGreatDoor
