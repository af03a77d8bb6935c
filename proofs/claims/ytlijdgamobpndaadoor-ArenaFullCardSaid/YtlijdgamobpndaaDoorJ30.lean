import Derived.Test.YtlijdgamobpndaaDoorJ10
import Derived.Test.YtlijdgamobpndaaDoorJ22
import Derived.Test.YtlijdgamobpndaaDoorJ15
import Derived.Deep.RegionLaw
import Derived.Test.YtlijdgamobpndaaDoorJ29
import Derived.Test.YtlijdgamobpndaaDoorJ12
/-
  Plain facts that the laws of layer 4 come down to: bounds on names and nodes, what is right for fewer parameters and variables.
  Conditions: none.
-/
namespace Go.Proofs.YtlijdgamobpndaaDoor
open Go.RowKit
open Lvl

mutual
theorem okB_mono {m k : Int} (h : m ≤ k) : ∀ t : Lv, okB m t = true → okB k t = true
  | .mk kd n ts, ht => by
    rw [okB] at ht ⊢
    by_cases h1 : kd = 1
    · rw [if_pos h1] at ht ⊢; exact ht
    · rw [if_neg h1] at ht ⊢
      by_cases h2 : kd = 2
      · rw [if_pos h2] at ht ⊢
        simp only [Bool.and_eq_true, decide_eq_true_eq] at ht ⊢
        exact ⟨⟨ht.1.1, by omega⟩, ht.2⟩
      · rw [if_neg h2] at ht ⊢
        by_cases h3 : kd = 3
        · rw [if_pos h3] at ht ⊢
          rw [Bool.and_eq_true] at ht ⊢
          exact ⟨ht.1, okL_mono h ts ht.2⟩
        · rw [if_neg h3] at ht ⊢
          by_cases h4 : kd = 4 ∨ kd = 5
          · rw [if_pos h4] at ht ⊢
            rw [Bool.and_eq_true] at ht ⊢
            exact ⟨ht.1, okL_mono h ts ht.2⟩
          · rw [if_neg h4] at ht
            cases ht
theorem okL_mono {m k : Int} (h : m ≤ k) : ∀ ts : List Lv, okL m ts = true → okL k ts = true
  | [], _ => by rw [okL]
  | a :: ts, ht => by
    rw [okL, Bool.and_eq_true] at ht ⊢
    exact ⟨okB_mono h a ht.1, okL_mono h ts ht.2⟩
end
theorem rightB_four {n : Int} {t : Lv} (h : rightB n t = true) : rightB 4 t = true := by
  unfold rightB at h ⊢
  simp only [Bool.and_eq_true, decide_eq_true_eq] at h ⊢
  exact ⟨⟨⟨by omega, by omega⟩, h.1.2⟩, okB_mono h.1.1.2 t h.2⟩
namespace Trm
mutual
theorem tn_rn : ∀ t : Tm, tnodes t ≤ rn t
  | .mk k n m ls ts => by
    rw [tnodes, rn]
    have := tnL_rn ts
    omega
theorem tnL_rn : ∀ ts : List Tm, tnodesL ts ≤ rnL ts
  | [] => by rw [tnodesL, rnL]; omega
  | a :: ts => by
    rw [tnodesL, rnL]
    have := tn_rn a
    have := tnL_rn ts
    omega
end
mutual
theorem nm_pre : ∀ (t : Tm) (d b : Nat), nmOk t → ∀ q, q ∈ pre t d b → (tmOf q.1).size ≤ 140737488355328
  | .mk k n m ls ts, d, b, h, q, hq => by
    rw [nmOk] at h
    rw [pre, List.mem_cons] at hq
    rcases hq with rfl | hq
    · exact h.1
    · exact nm_preL k ts.length ts 0 (d + 1) b h.2 q hq
theorem nm_preL (k : Int) (len : Nat) : ∀ (ts : List Tm) (i d b : Nat), nmOkL ts → ∀ q, q ∈ preL k len ts i d b → (tmOf q.1).size ≤ 140737488355328
  | [], _, _, _, _, q, hq => by rw [preL] at hq; cases hq
  | a :: ts, i, d, b, h, q, hq => by
    rw [nmOkL] at h
    rw [preL, List.mem_append] at hq
    rcases hq with hq | hq
    · exact nm_pre a d _ h.1 q hq
    · exact nm_preL k len ts (i + 1) d b h.2 q hq
end
theorem shape_RL {RN : ByteArray → Bool} {RL RL' : Lv → Bool} (h : ∀ l, RL l = true → RL' l = true) {kd n : Int} {nm : ByteArray} {ls : List Lv} {m : Nat} {k : Int} (hs : shape RN RL kd n nm ls m k = true) : shape RN RL' kd n nm ls m k = true := by
  unfold shape at hs ⊢
  rw [Bool.and_eq_true] at hs ⊢
  exact ⟨List.all_eq_true.2 fun l hl => h l (List.all_eq_true.1 hs.1 l hl), hs.2⟩
mutual
theorem okT_RL {RN : ByteArray → Bool} {RL RL' : Lv → Bool} (h : ∀ l, RL l = true → RL' l = true) : ∀ (t : Tm) (k : Int), okT RN RL t k = true → okT RN RL' t k = true
  | .mk kd n nm ls ts, k, ht => by
    rw [okT, Bool.and_eq_true] at ht ⊢
    exact ⟨shape_RL h ht.1, okTL_RL h kd ts 0 k ht.2⟩
theorem okTL_RL {RN : ByteArray → Bool} {RL RL' : Lv → Bool} (h : ∀ l, RL l = true → RL' l = true) (kd : Int) : ∀ (ts : List Tm) (i : Nat) (k : Int), okTL RN RL kd ts i k = true → okTL RN RL' kd ts i k = true
  | [], _, _, _ => by rw [okTL]
  | a :: ts, i, k, ht => by
    rw [okTL, Bool.and_eq_true] at ht ⊢
    exact ⟨okT_RL h a _ ht.1, okTL_RL h kd ts (i + 1) k ht.2⟩
end
theorem rightT_ok {RN : ByteArray → Bool} {nn kk : Int} {t : Tm} (h : rightT RN nn t kk = true) : 0 ≤ kk ∧ tnodes t ≤ 2000 ∧ okT RN (rightB nn) t (min kk 1125899906842624) = true := by
  unfold rightT at h
  simp only [Bool.and_eq_true, decide_eq_true_eq] at h
  exact ⟨h.1.1, h.1.2, h.2⟩
theorem rightT_of {RN : ByteArray → Bool} {nn kk : Int} {t : Tm} (h0 : 0 ≤ kk) (h1 : tnodes t ≤ 2000) (h2 : okT RN (rightB nn) t (min kk 1125899906842624) = true) : rightT RN nn t kk = true := by
  unfold rightT
  simp only [Bool.and_eq_true, decide_eq_true_eq]
  exact ⟨⟨h0, h1⟩, h2⟩
theorem rightT_more {RN : ByteArray → Bool} {nn kk kk' : Int} {t : Tm} (h : rightT RN nn t kk = true) (hk : kk ≤ kk') : rightT RN nn t kk' = true := by
  obtain ⟨h0, h1, h2⟩ := rightT_ok h
  refine rightT_of (by omega) h1 ?_
  have := okT_mono RN (rightB nn) h2 (by omega) (min kk' 1125899906842624 - min kk 1125899906842624) (by omega)
  rwa [show min kk 1125899906842624 + (min kk' 1125899906842624 - min kk 1125899906842624) = min kk' 1125899906842624 by omega] at this
theorem rightT_four {RN : ByteArray → Bool} {nn kk : Int} {t : Tm} (h : rightT RN nn t kk = true) : rightT RN 4 t kk = true := by
  obtain ⟨h0, h1, h2⟩ := rightT_ok h
  exact rightT_of h0 h1 (okT_RL (fun l => rightB_four) t _ h2)
/-- All that TermRights says, of a term that is right in kk variables. -/
theorem rights_all {RN : ByteArray → Bool} {nn kk : Int} {t : Tm} (h : rightT RN nn t kk = true) (hk : kk ≤ 1000) :
    looseT RN t = loT t 0 ∧ 0 ≤ loT t 0 ∧ loT t 0 ≤ kk ∧ rightT RN nn t (loT t 0) = true ∧ (loT t 0 ≠ 0 → rightT RN nn t (loT t 0 - 1) = false) := by
  have h4 := rightT_more (rightT_four h) (show kk ≤ 1125899906842624 by omega)
  obtain ⟨h0, h1, h2⟩ := rightT_ok h
  have hl : looseT RN t = loT t 0 := by unfold looseT; rw [if_pos h4]
  have hp := loT_pos t 0
  have e : min kk 1125899906842624 = kk := by omega
  rw [e] at h2
  have hle : loT t 0 ≤ kk := (okT_lo RN (rightB nn) t kk kk 0 h2 h0).1 (by rw [Int.add_zero]; exact h2)
  have hlr : okT RN (rightB nn) t (loT t 0) = true := by
    have := (okT_lo RN (rightB nn) t kk (loT t 0) 0 h2 hp).2 (Int.le_refl _)
    rwa [Int.add_zero] at this
  refine ⟨hl, hp, hle, rightT_of hp h1 (by rw [show min (loT t 0) 1125899906842624 = loT t 0 by omega]; exact hlr), fun hne => ?_⟩
  cases hb : rightT RN nn t (loT t 0 - 1) with
  | false => rfl
  | true =>
    obtain ⟨b0, _, b2⟩ := rightT_ok hb
    rw [show min (loT t 0 - 1) 1125899906842624 = loT t 0 - 1 by omega] at b2
    have := (okT_lo RN (rightB nn) t kk (loT t 0 - 1) 0 h2 b0).1 (by rw [Int.add_zero]; exact b2)
    omega
end Trm
end Go.Proofs.YtlijdgamobpndaaDoor
/-
  The contract of the statements' helper CopyTerm: the same term, in new memory.
  Conditions: the term lies in memory as told by 'TmV'; it has at most 100000 nodes, each level in it at most 1000.
-/
namespace Go.Proofs.YtlijdgamobpndaaDoor
open Go.RowKit
open Lvl
namespace Trm

/-- The world behind one round: what lay there at the loop's begin is kept, but for the box. -/
theorem grown_round {W wr wA w2 : World} {B : Nat} {O : Obj} {row : Option Nat} {a : Addr} {v : Value} (h : W.grownBy wr (some B)) (hA : Below wr.heap.size wr wA) (hg : (wA.alloc O).grownBy w2 row) (hrow : ∀ k, row = some k → W.heap.size ≤ k) (ha : a.block = B) : W.grownBy (w2.setCell a v) (some B) := by
  have s1 := hA.size
  obtain ⟨h1, h2, h3, h4, h5⟩ := h
  obtain ⟨g1, g2, g3, g4, g5⟩ := hg
  have s2 : (wA.alloc O).heap.size = wA.heap.size + 1 := by simp
  refine ⟨g1.trans (hA.os.trans h1), g2.trans (hA.tape.trans h2), g3.trans (hA.output.trans h3), by rw [setCell_size]; omega, fun k hk hne => ?_⟩
  rw [setCell_far _ _ _ _ (by rw [ha]; intro e; exact hne (by rw [e]))]
  rw [g5 k (by omega) (fun e => by have := hrow k e.symm; omega), heap_alloc_old wA O (by omega), hA.block k (by omega)]
  exact h5 k hk hne
theorem lsP_at {w : World} {P : Nat → Prop} : ∀ {A : Option Addr} {ts : List Lv} {j : Nat}, LsP w P A j ts → ∀ i (h : i < ts.length), ∃ b o s, A = some ⟨b, o, none⟩ ∧ b < w.heap.size ∧ P b ∧ w.cell? ⟨b, o + (j + i) * 3, none⟩ = some (.int .i64 (kindOf ts[i])) ∧ w.cell? ⟨b, o + (j + i) * 3 + 1, none⟩ = some (.int .i64 (numOf ts[i])) ∧ w.cell? ⟨b, o + (j + i) * 3 + 2, none⟩ = some s ∧ LvP w P ts[i] s
  | A, a :: ts, j, h, 0, _ => by
    rw [LsP] at h
    exact h.1
  | A, a :: ts, j, h, i + 1, hi => by
    rw [LsP] at h
    have := lsP_at h.2 i (by simpa using hi)
    rw [show j + 1 + i = j + (i + 1) by omega] at this
    exact this
theorem lsP_get {w : World} {P : Nat → Prop} {A : Option Addr} {ts : List Lv} (h : LsP w P A 0 ts) (i : Nat) (hi : i < ts.length) : ∃ b o s, A = some ⟨b, o, none⟩ ∧ b < w.heap.size ∧ P b ∧ w.cell? ⟨b, o + i * 3, none⟩ = some (.int .i64 (kindOf ts[i])) ∧ w.cell? ⟨b, o + i * 3 + 1, none⟩ = some (.int .i64 (numOf ts[i])) ∧ w.cell? ⟨b, o + i * 3 + 2, none⟩ = some s ∧ LvP w P ts[i] s := by
  have := lsP_at h i hi
  rw [Nat.zero_add] at this
  exact this
mutual
theorem okC_any : ∀ (t : Tm) (d e : Int), okC cAll t d → okC cAll t e
  | .mk k n m ls ts, d, e, h => by
    rw [okC] at h ⊢
    exact ⟨⟨trivial, h.1.2⟩, okCL_any k ts.length ts 0 d e h.2⟩
theorem okCL_any (k : Int) (len : Nat) : ∀ (ts : List Tm) (i : Nat) (d e : Int), okCL cAll k len ts i d → okCL cAll k len ts i e
  | [], _, _, _, _ => by rw [okCL]; trivial
  | a :: ts, i, d, e, h => by
    rw [okCL] at h ⊢
    exact ⟨okC_any a _ _ h.1, okCL_any k len ts (i + 1) d e h.2⟩
end
theorem lvOk_arg {k n : Int} {m : ByteArray} {ls : List Lv} {ts : List Tm} (h : lvOk (.mk k n m ls ts)) (j : Nat) (hj : j < ts.length) : lvOk ts[j] := by
  unfold lvOk at h ⊢
  rw [okC] at h
  exact okC_any _ _ _ (okCL_get _ _ _ ts 0 0 h.2 j hj)
theorem lvlOk_get {t : Tm} (h : lvOk t) : (∀ l ∈ tlOf t, nodes l ≤ 1000) ∧ ∀ a ∈ taOf t, lvOk a := by
  cases t with
  | mk k n m ls ts =>
  refine ⟨?_, fun a ha => ?_⟩
  · unfold lvOk at h
    rw [okC] at h
    exact h.1.2
  · obtain ⟨j, hj, rfl⟩ := List.getElem_of_mem ha
    exact lvOk_arg h j hj

theorem roundL {wr wA w2 : World} {base j g cap' p : Nat} {ki nu : Int} {V s9 V' : Value} {ls : List Lv} {ss : List Value} {tj : Lv} {O : Obj} {B : Nat}
    (hsz : base ≤ wr.heap.size) (hB : B < base) (hl : (ls.take j).length = ss.length) (hjl : (ls.take j).length = j)
    (ho : wr.ownsRow base 63 3 V j (cells3 (ls.take j) ss))
    (hk : ∀ i (h1 : i < (ls.take j).length) (h2 : i < ss.length), LvP wr (fun b => base ≤ b ∧ V.ownBlock ≠ some b) (ls.take j)[i] ss[i])
    (hki : kindOf tj = ki) (hnu : numOf tj = nu) (htk : ls.take (j + 1) = ls.take j ++ [tj])
    (hbA : Below wr.drew.heap.size wr.drew wA) (hs : LvP wA (fun b => wr.drew.heap.size ≤ b) tj s9)
    (hown : w2.ownsRow base 63 3 (.slice (some ⟨g, 0, none⟩) (j + 1) cap') (j + 1) (cells3 (ls.take j) ss ++ [.int .i64 ki, .int .i64 nu, s9]))
    (hg : (wA.alloc O).grownBy w2 V.ownBlock) (hat : V.ownBlock = some g ∨ g = wA.heap.size + 1) :
    OwnL (w2.setCell ⟨B, p, none⟩ V') base (.slice (some ⟨g, 0, none⟩) (j + 1) cap') (ls.take (j + 1)) := by
  have hd : wr.drew.heap.size = wr.heap.size := rfl
  have hO : OwnL w2 base (.slice (some ⟨g, 0, none⟩) (j + 1) cap') (ls.take (j + 1)) := by
    have := ownL_step (w0 := wr.drew) (w1 := wA) (w2 := w2) (base := base) (V := V) (ts := ls.take j) (ss := ss) (a := tj) (s := s9) (H := wA.heap.size + 1) (O := O) (g := g) (cap := cap') hl (by rw [hjl]; exact own_below ho (Below.refl _ _).drew) (fun i h1 h2 => lvP_move (w := wr) (w' := wr.drew) (fun b _ hp => ⟨hp, rfl⟩) (Nat.le_refl _) _ _ (hk i h1 h2)) (by omega) hbA hs (by simp) (by rw [hjl, hki, hnu]; exact hown) hg hat
    rw [hjl] at this
    rw [htk]
    exact this
  exact ownL_move hO (fun b _ hb => setCell_far _ _ _ _ (by show b ≠ B; omega)) (by rw [setCell_size]; exact Nat.le_refl _)
theorem roundT {wr wA w2 : World} {base j g cap' p : Nat} {ki nu : Int} {mo : ByteArray} {V l9 s9 V' : Value} {ts : List Tm} {ss : List (Value × Value)} {tj : Tm} {O : Obj} {B : Nat}
    (hsz : base ≤ wr.heap.size) (hB : B < base) (hl : (ts.take j).length = ss.length) (hjl : (ts.take j).length = j)
    (ho : wr.ownsRow base 25 5 V j (cells5 (ts.take j) ss))
    (hk : ∀ i (h1 : i < (ts.take j).length) (h2 : i < ss.length), TmP wr (fun b => base ≤ b ∧ V.ownBlock ≠ some b) (ts.take j)[i] ss[i].1 ss[i].2)
    (hki : tkOf tj = ki) (hnu : tnOf tj = nu) (hmo : tmOf tj = mo) (htk : ts.take (j + 1) = ts.take j ++ [tj])
    (hbA : Below wr.drew.heap.size wr.drew wA) (hs : TmP wA (fun b => wr.drew.heap.size ≤ b) tj l9 s9)
    (hown : w2.ownsRow base 25 5 (.slice (some ⟨g, 0, none⟩) (j + 1) cap') (j + 1) (cells5 (ts.take j) ss ++ [.int .i64 ki, .int .i64 nu, .string mo, l9, s9]))
    (hg : (wA.alloc O).grownBy w2 V.ownBlock) (hat : V.ownBlock = some g ∨ g = wA.heap.size + 1) :
    OwnT (w2.setCell ⟨B, p, none⟩ V') base (.slice (some ⟨g, 0, none⟩) (j + 1) cap') (ts.take (j + 1)) := by
  have hd : wr.drew.heap.size = wr.heap.size := rfl
  have hO : OwnT w2 base (.slice (some ⟨g, 0, none⟩) (j + 1) cap') (ts.take (j + 1)) := by
    have := ownT_step (w0 := wr.drew) (w1 := wA) (w2 := w2) (base := base) (V := V) (ts := ts.take j) (ss := ss) (a := tj) (l := l9) (s := s9) (H := wA.heap.size + 1) (O := O) (g := g) (cap := cap') hl (fun i h1 h2 => tmP_move (w := wr) (w' := wr.drew) (fun b _ hp => ⟨hp, rfl⟩) (Nat.le_refl _) _ _ _ (hk i h1 h2)) hbA (tmP_new (own_below ho (Below.refl _ _).drew) (by omega) hs) (by simp) (by rw [hjl, hki, hnu, hmo]; exact hown) hg hat
    rw [hjl] at this
    rw [htk]
    exact this
  exact ownT_move hO (fun b _ hb => setCell_far _ _ _ _ (by show b ≠ B; omega)) (by rw [setCell_size]; exact Nat.le_refl _)
theorem arr_set {w : World} {b p : Nat} {arr : Array Value} {v : Value} {T : TypeId} (h : w.heap[b]? = some (.cells arr T (0, 0))) : (w.setCell ⟨b, p, none⟩ v).heap[b]? = some (.cells (arr.setIfInBounds p v) T (0, 0)) := setCell_arr h

theorem ownT_base {w : World} {base base' : Nat} {V : Value} {ts : List Tm} (h : OwnT w base' V ts) (hle : base ≤ base') : OwnT w base V ts := by
  obtain ⟨ss, hl, ho, hk⟩ := h
  refine ⟨ss, hl, ⟨ho.1, ?_⟩, fun i h1 h2 => tmP_weak (fun b hp => ⟨Nat.le_trans hle hp.1, hp.2⟩) (hk i h1 h2)⟩
  rcases ho.2 with h1 | ⟨g, cap, cur, e, hbg, hr⟩
  · exact .inl h1
  · exact .inr ⟨g, cap, cur, e, Nat.le_trans hle hbg, hr⟩
/-- A term is answered in new memory, its arguments in a row of their own. -/
def TmRetO (w : World) (t : Tm) (e : Ending) (w' : World) : Prop :=
  ∃ l s, e = .returned (tv t l s) ∧ TmP w' (fun b => w.heap.size ≤ b) t l s ∧ OwnT w' w.heap.size s (taOf t) ∧ Below w.heap.size w w'

end Trm
end Go.Proofs.YtlijdgamobpndaaDoor
/-
  The contract of the statements' helper SameTerm at two terms that are one tree: true.
  Conditions: both lie in memory as told by 'TmV'.
-/
namespace Go.Proofs.YtlijdgamobpndaaDoor
open Go.RowKit
open Lvl
namespace Trm

set_option maxRecDepth 100000 in
set_option maxHeartbeats 2000000 in
theorem sameTerm_up : ∀ (N : Nat) (t : Tm) (v v' : Value) (w : World), tnodes t ≤ N → TmV w t v → TmV w t v' →
    Calls Tryd.prog 16 #[v, v'] w (Ret w (.bool true)) := by
  intro N
  induction N with
  | zero => intro t v v' w h _ _; have := tnodes_pos t; omega
  | succ N ih =>
  intro t v v' w hN hv hv'
  obtain ⟨l, s, rfl, ht⟩ := hv
  obtain ⟨l', s', rfl, ht'⟩ := hv'
  cases t with
  | mk k n m ls ts =>
  rw [TmP, LvP] at ht ht'
  obtain ⟨⟨LA, ll, lc, rfl, l1, l2, l3, l4, l5⟩, A, len, cap, rfl, h1, h2, h2b, h3, h4⟩ := ht
  obtain ⟨⟨LA', ll', lc', rfl, l1', l2', l3', l4', l5'⟩, A', len', cap', rfl, h1', h2', h2b', h3', h4'⟩ := ht'
  obtain rfl : len = len' := h1.symm.trans h1'
  obtain rfl : ll = ll' := l1.symm.trans l1'
  have IH := Lib.hid ih
  have HLS := Lib.hid l5
  have HLS' := Lib.hid l5'
  have HTS := Lib.hid h4
  have HTS' := Lib.hid h4'
  have HLN := Lib.hid l1
  have HN := Lib.hid h1
  have HNN : Hid (tnodesL ts ≤ N) := by
    rw [tnodes] at hN
    have : tnodesL ts ≤ N := by omega
    exact this
  clear h4 h1 h3 l5 l1 l4 hN ih h4' h1' h3' h2b' l5' l1' l4' l3'
  show Calls Tryd.prog 16 #[.agg #[.int .i64 k, .int .i64 n, .string m, .slice LA ll lc, .slice A len cap], .agg #[.int .i64 k, .int .i64 n, .string m, .slice LA' ll lc', .slice A' len cap']] w (Ret w (.bool true))
  go_enter Tryd.func16, Tryd.ntmps16
  go_wp2_with fail
  have z1 : (w.alloc (.cells #[.int .i64 k, .int .i64 n, .string m, .slice LA ll lc, .slice A len cap] 25)).heap.size = w.heap.size + 1 := by simp
  have z2 : ((w.alloc (.cells #[.int .i64 k, .int .i64 n, .string m, .slice LA ll lc, .slice A len cap] 25)).alloc (.cells #[.int .i64 k, .int .i64 n, .string m, .slice LA' ll lc', .slice A' len cap'] 25)).heap.size = w.heap.size + 1 + 1 := by simp
  have r0 : (w.alloc (.cells #[.int .i64 k, .int .i64 n, .string m, .slice LA ll lc, .slice A len cap] 25)).heap[w.heap.size]? = some (Obj.cells #[.int .i64 k, .int .i64 n, .string m, .slice LA ll lc, .slice A len cap] 25 (0, 0)) := by
    have := heap_alloc_new w (.cells #[.int .i64 k, .int .i64 n, .string m, .slice LA ll lc, .slice A len cap] 25)
    exact this
  have r1 : ((w.alloc (.cells #[.int .i64 k, .int .i64 n, .string m, .slice LA ll lc, .slice A len cap] 25)).alloc (.cells #[.int .i64 k, .int .i64 n, .string m, .slice LA' ll lc', .slice A' len cap'] 25)).heap[w.heap.size + 1]? = some (Obj.cells #[.int .i64 k, .int .i64 n, .string m, .slice LA' ll lc', .slice A' len cap'] 25 (0, 0)) := by
    have := heap_alloc_new (w.alloc (.cells #[.int .i64 k, .int .i64 n, .string m, .slice LA ll lc, .slice A len cap] 25)) (.cells #[.int .i64 k, .int .i64 n, .string m, .slice LA' ll lc', .slice A' len cap'] 25)
    rwa [z1] at this
  have HB := Lib.hid ((below_lit w (.cells #[.int .i64 k, .int .i64 n, .string m, .slice LA ll lc, .slice A len cap] 25)).trans ((below_lit (w.alloc (.cells #[.int .i64 k, .int .i64 n, .string m, .slice LA ll lc, .slice A len cap] 25)) (.cells #[.int .i64 k, .int .i64 n, .string m, .slice LA' ll lc', .slice A' len cap'] 25)).mono (below_lit w (.cells #[.int .i64 k, .int .i64 n, .string m, .slice LA ll lc, .slice A len cap] 25)).size))
  have HR0 := Lib.hid ((heap_alloc_old (w.alloc (.cells #[.int .i64 k, .int .i64 n, .string m, .slice LA ll lc, .slice A len cap] 25)) (.cells #[.int .i64 k, .int .i64 n, .string m, .slice LA' ll lc', .slice A' len cap'] 25) (by rw [z1]; omega)).trans (r0))
  have HR1 := Lib.hid (r1)
  clear r0 r1
  generalize ((w.alloc (.cells #[.int .i64 k, .int .i64 n, .string m, .slice LA ll lc, .slice A len cap] 25)).alloc (.cells #[.int .i64 k, .int .i64 n, .string m, .slice LA' ll lc', .slice A' len cap'] 25)) = W at *
  have HZ := Lib.hid z2
  clear z1 z2
  have HZ9 := Lib.hid (show W.heap.size = w.heap.size + 2 from HZ.out)
  have hk : Hid (∀ W', Below W.heap.size W W' → W'.cell? ⟨w.heap.size, 3, none⟩ = some (.slice LA ll lc) ∧ W'.cell? ⟨w.heap.size + 1, 3, none⟩ = some (.slice LA' ll lc') ∧ W'.cell? ⟨w.heap.size, 4, none⟩ = some (.slice A len cap) ∧ W'.cell? ⟨w.heap.size + 1, 4, none⟩ = some (.slice A' len cap')) := fun W' h => by
    obtain ⟨_, _, _, a3, a4⟩ := five_cells ((h.block w.heap.size (by rw [HZ.out]; omega)).trans HR0.out)
    obtain ⟨_, _, _, b3, b4⟩ := five_cells ((h.block (w.heap.size + 1) (by rw [HZ.out]; omega)).trans HR1.out)
    exact ⟨a3, b3, a4, b4⟩
  obtain ⟨a0, a1, a2, a3, a4⟩ := five_cells HR0.out
  obtain ⟨b0, b1, b2, b3, b4⟩ := five_cells HR1.out
  go_wp2_with fail
  clear a0 a1 a2 a3 a4 b0 b1 b2 b3 b4
  go_loopw [5] (fun i wr => ∃ j : Nat, j ≤ ll ∧ i = .int .i64 j ∧ Hid (Below W.heap.size W wr)) (fun i _ => ll - (intOf i).toNat)
  case atStart => exact ⟨0, Nat.zero_le _, rfl, Below.refl _ _⟩
  case round =>
    obtain ⟨j, hj, rfl, hbw⟩ := hrel
    have HB2 := Lib.hid (HB.out.trans (hbw.out.mono HB.out.size))
    have hsz : w.heap.size + 2 ≤ wr.heap.size := by rw [← HZ9.out]; exact hbw.out.size
    obtain ⟨x3, y3, x4, y4⟩ := hk.out wr hbw.out
    by_cases hlt : j < ll
    · have hx1 : j < ls.length := by rw [HLN.out]; exact hlt
      have hln : decide ((j : Int) < (ll : Int)) = true := by simp; omega
      obtain ⟨b, o, s, rfl, hbs, _, hc0, hc1, hc2, hls⟩ := lsP_get HLS.out j hx1
      obtain ⟨b', o', s', rfl, hbs', _, hc0', hc1', hc2', hls'⟩ := lsP_get HLS'.out j hx1
      have hbs2 := Nat.lt_of_lt_of_le hbs HB2.out.size
      have hbs2' := Nat.lt_of_lt_of_le hbs' HB2.out.size
      have hc0 := (HB2.out.cell (p := ⟨b, _, none⟩) hbs).trans hc0
      have hc1 := (HB2.out.cell (p := ⟨b, _, none⟩) hbs).trans hc1
      have hc2 := (HB2.out.cell (p := ⟨b, _, none⟩) hbs).trans hc2
      have hc0' := (HB2.out.cell (p := ⟨b', _, none⟩) hbs').trans hc0'
      have hc1' := (HB2.out.cell (p := ⟨b', _, none⟩) hbs').trans hc1'
      have hc2' := (HB2.out.cell (p := ⟨b', _, none⟩) hbs').trans hc2'
      have HLS0 : Hid (LvV wr ls[j] (.agg #[.int .i64 (kindOf ls[j]), .int .i64 (numOf ls[j]), s])) := ⟨s, rfl, lvS_below HB2.out _ _ (lvS_of _ _ hls)⟩
      have HLS0' : Hid (LvV wr ls[j] (.agg #[.int .i64 (kindOf ls[j]), .int .i64 (numOf ls[j]), s'])) := ⟨s', rfl, lvS_below HB2.out _ _ (lvS_of _ _ hls')⟩
      generalize kindOf ls[j] = ki at *
      generalize numOf ls[j] = nu at *
      generalize ls[j] = tj at *
      have hk9 : Hid (∀ W', Below wr.heap.size wr W' → W'.cell? ⟨w.heap.size, 3, none⟩ = some (.slice (some ⟨b, o, none⟩) ll lc) ∧ W'.cell? ⟨w.heap.size + 1, 3, none⟩ = some (.slice (some ⟨b', o', none⟩) ll lc') ∧ W'.cell? ⟨b, o + j * 3, none⟩ = some (.int .i64 ki) ∧ W'.cell? ⟨b, o + j * 3 + 1, none⟩ = some (.int .i64 nu) ∧ W'.cell? ⟨b, o + j * 3 + 2, none⟩ = some (s) ∧ W'.cell? ⟨b', o' + j * 3, none⟩ = some (.int .i64 ki) ∧ W'.cell? ⟨b', o' + j * 3 + 1, none⟩ = some (.int .i64 nu) ∧ W'.cell? ⟨b', o' + j * 3 + 2, none⟩ = some (s')) := fun W' h => by
        obtain ⟨x3, y3, x4, y4⟩ := hk.out W' (hbw.out.trans (h.mono hbw.out.size))
        exact ⟨x3, y3, (h.cell (p := ⟨b, _, none⟩) hbs2).trans hc0, (h.cell (p := ⟨b, _, none⟩) hbs2).trans hc1, (h.cell (p := ⟨b, _, none⟩) hbs2).trans hc2, (h.cell (p := ⟨b', _, none⟩) hbs2').trans hc0', (h.cell (p := ⟨b', _, none⟩) hbs2').trans hc1', (h.cell (p := ⟨b', _, none⟩) hbs2').trans hc2'⟩
      have h0 : (0 : Int) ≤ (j : Int) := by omega
      have hji : (j : Int) < (ll : Int) := by omega
      clear hls hls' hbs hbs'
      go_wp2_with fail
      refine wp_region_held_drew (S := fun W' => W'.cell? ⟨w.heap.size, 3, none⟩ = some (.slice (some ⟨b, o, none⟩) ll lc) ∧ W'.cell? ⟨w.heap.size + 1, 3, none⟩ = some (.slice (some ⟨b', o', none⟩) ll lc') ∧ W'.cell? ⟨b, o + j * 3, none⟩ = some (.int .i64 ki) ∧ W'.cell? ⟨b, o + j * 3 + 1, none⟩ = some (.int .i64 nu) ∧ W'.cell? ⟨b, o + j * 3 + 2, none⟩ = some (s) ∧ W'.cell? ⟨b', o' + j * 3, none⟩ = some (.int .i64 ki) ∧ W'.cell? ⟨b', o' + j * 3 + 1, none⟩ = some (.int .i64 nu) ∧ W'.cell? ⟨b', o' + j * 3 + 2, none⟩ = some (s')) (by kernel_rfl) (hk9.out _ (Below.refl _ _).drew) (fun hHeld => ?_)
      refine take_in (i := 0) (v := ?_) rfl (by kernel_rfl) (by kernel_rfl) (by kernel_rfl) (fun _ _ _ h => h) (by rfl) ?_ hHeld ?_
      rotate_left
      · intro w hSw
        (try dsimp only at hSw)
        go_simp
        try with_reducible rfl
      try simp only [Act.put, List.setIfInBounds_toArray, List.set_cons_zero, List.set_cons_succ]
      refine take_in (i := 1) (v := ?_) rfl (by kernel_rfl) (by kernel_rfl) (by kernel_rfl) (fun _ _ _ h => h) (by rfl) ?_ hHeld ?_
      rotate_left
      · intro w hSw
        (try dsimp only at hSw)
        go_simp
        try with_reducible rfl
      try simp only [Act.put, List.setIfInBounds_toArray, List.set_cons_zero, List.set_cons_succ]
      refine take_in (i := 2) (v := ?_) rfl (by kernel_rfl) (by kernel_rfl) (by kernel_rfl) (fun _ _ _ h => h) (by rfl) ?_ hHeld ?_
      rotate_left
      · intro w hSw
        (try dsimp only at hSw)
        go_simp
        try with_reducible rfl
      try simp only [Act.put, List.setIfInBounds_toArray, List.set_cons_zero, List.set_cons_succ]
      refine take_in (i := 3) (v := ?_) rfl (by kernel_rfl) (by kernel_rfl) (by kernel_rfl) (fun _ _ _ h => h) (by rfl) ?_ hHeld ?_
      rotate_left
      · intro w hSw
        (try dsimp only at hSw)
        go_simp
        try with_reducible rfl
      try simp only [Act.put, List.setIfInBounds_toArray, List.set_cons_zero, List.set_cons_succ]
      refine take_in (i := 4) (v := ?_) rfl (by kernel_rfl) (by kernel_rfl) (by kernel_rfl) (fun _ _ _ h => h) (by rfl) ?_ hHeld ?_
      rotate_left
      · intro w hSw
        (try dsimp only at hSw)
        go_simp
        try with_reducible rfl
      try simp only [Act.put, List.setIfInBounds_toArray, List.set_cons_zero, List.set_cons_succ]
      refine take_in (i := 5) (v := ?_) rfl (by kernel_rfl) (by kernel_rfl) (by kernel_rfl) (fun _ _ _ h => h) (by rfl) ?_ hHeld ?_
      rotate_left
      · intro w hSw
        (try dsimp only at hSw)
        go_simp
        try with_reducible rfl
      try simp only [Act.put, List.setIfInBounds_toArray, List.set_cons_zero, List.set_cons_succ]
      refine take_in (i := 6) (v := ?_) rfl (by kernel_rfl) (by kernel_rfl) (by kernel_rfl) (fun _ _ _ h => h) (by rfl) ?_ hHeld ?_
      rotate_left
      · intro w hSw
        (try dsimp only at hSw)
        go_simp
        try with_reducible rfl
      try simp only [Act.put, List.setIfInBounds_toArray, List.set_cons_zero, List.set_cons_succ]
      refine take_in (i := 7) (v := ?_) rfl (by kernel_rfl) (by kernel_rfl) (by kernel_rfl) (fun _ _ _ h => h) (by rfl) ?_ hHeld ?_
      rotate_left
      · intro w hSw
        (try dsimp only at hSw)
        go_simp
        try with_reducible rfl
      try simp only [Act.put, List.setIfInBounds_toArray, List.set_cons_zero, List.set_cons_succ]
      refine take_in (i := 8) (v := ?_) rfl (by kernel_rfl) (by kernel_rfl) (by kernel_rfl) (fun _ _ _ h => h) (by rfl) ?_ hHeld ?_
      rotate_left
      · intro w hSw
        (try dsimp only at hSw)
        go_simp
        try with_reducible rfl
      try simp only [Act.put, List.setIfInBounds_toArray, List.set_cons_zero, List.set_cons_succ]
      refine take_in (i := 9) (v := ?_) rfl (by kernel_rfl) (by kernel_rfl) (by kernel_rfl) (fun _ _ _ h => h) (by rfl) ?_ hHeld ?_
      rotate_left
      · intro w hSw
        (try dsimp only at hSw)
        go_simp
        try with_reducible rfl
      try simp only [Act.put, List.setIfInBounds_toArray, List.set_cons_zero, List.set_cons_succ]
      refine call_in (i := 10) rfl (by kernel_rfl) (fun K hK => ?_)
      clear hHeld
      go_simp
      go_at_call 29
      refine (sameLevel_same tj _ _ _ (HLS0.out.below (Below.refl _ _).drew) (HLS0'.out.below (Below.refl _ _).drew)).mono ?_
      rintro e w9 ⟨rfl, hb9⟩
      have H9 := Lib.hid ((Below.refl _ _).drew.trans hb9)
      clear hb9

      try (go_wp2_with fail)
      refine hK.out _ _ (hk9.out _ H9.out) (fun hHeld => ?_)
      clear hK K
      try simp only [Act.put, List.setIfInBounds_toArray, List.set_cons_zero, List.set_cons_succ]
      refine take_in (i := 11) (v := ?_) rfl (by kernel_rfl) (by kernel_rfl) (by kernel_rfl) (fun _ _ _ h => h) (by rfl) ?_ hHeld ?_
      rotate_left
      · intro w hSw
        (try dsimp only at hSw)
        go_simp
        try with_reducible rfl
      try simp only [Act.put, List.setIfInBounds_toArray, List.set_cons_zero, List.set_cons_succ]
      refine wpAnyH_done (by kernel_rfl) ?_ _
      go_wp2_with fail
      go_roundw
      case rel => exact ⟨j + 1, by omega, by go_num, hbw.out.trans (H9.out.mono hbw.out.size)⟩
      case measure => simp [intOf]; omega
    · obtain rfl : j = ll := by omega
      have hln : decide ((j : Int) < (j : Int)) = false := by simp
      go_wp2_with fail
      clear hlt hln x3 y3 x4 y4 hsz
      go_loopw [6] (fun i wr => ∃ j : Nat, j ≤ len ∧ i = .int .i64 j ∧ Hid (Below W.heap.size W wr)) (fun i _ => len - (intOf i).toNat)
      case atStart => exact ⟨0, Nat.zero_le _, rfl, hbw.out⟩
      case round =>
        obtain ⟨j, hj, rfl, hbw2⟩ := hrel
        have HB3 := Lib.hid (HB.out.trans (hbw2.out.mono HB.out.size))
        have hsz : w.heap.size + 2 ≤ wr.heap.size := by rw [← HZ9.out]; exact hbw2.out.size
        obtain ⟨x3, y3, x4, y4⟩ := hk.out wr hbw2.out
        by_cases hlt : j < len
        · have hx1 : j < ts.length := by rw [HN.out]; exact hlt
          have hln : decide ((j : Int) < (len : Int)) = true := by simp; omega
          obtain ⟨b, o, l, s, rfl, hbs, _, hc0, hc1, hc2, hc3, hc4, hls⟩ := tsP_get HTS.out j hx1
          obtain ⟨b', o', l', s', rfl, hbs', _, hc0', hc1', hc2', hc3', hc4', hls'⟩ := tsP_get HTS'.out j hx1
          have hbs2 := Nat.lt_of_lt_of_le hbs HB3.out.size
          have hbs2' := Nat.lt_of_lt_of_le hbs' HB3.out.size
          have hc0 := (HB3.out.cell (p := ⟨b, _, none⟩) hbs).trans hc0
          have hc1 := (HB3.out.cell (p := ⟨b, _, none⟩) hbs).trans hc1
          have hc2 := (HB3.out.cell (p := ⟨b, _, none⟩) hbs).trans hc2
          have hc3 := (HB3.out.cell (p := ⟨b, _, none⟩) hbs).trans hc3
          have hc4 := (HB3.out.cell (p := ⟨b, _, none⟩) hbs).trans hc4
          have hc0' := (HB3.out.cell (p := ⟨b', _, none⟩) hbs').trans hc0'
          have hc1' := (HB3.out.cell (p := ⟨b', _, none⟩) hbs').trans hc1'
          have hc2' := (HB3.out.cell (p := ⟨b', _, none⟩) hbs').trans hc2'
          have hc3' := (HB3.out.cell (p := ⟨b', _, none⟩) hbs').trans hc3'
          have hc4' := (HB3.out.cell (p := ⟨b', _, none⟩) hbs').trans hc4'
          obtain ⟨⟨xa, xl, xc, rfl⟩, ya, yl, yc, rfl⟩ := tmP_slices hls
          obtain ⟨⟨xa', xl', xc', rfl⟩, ya', yl', yc', rfl⟩ := tmP_slices hls'
          have HLS0 : Hid (TmV wr ts[j] (tv ts[j] (.slice xa xl xc) (.slice ya yl yc))) := ⟨_, _, rfl, tmP_below HB3.out hls⟩
          have HLS0' : Hid (TmV wr ts[j] (tv ts[j] (.slice xa' xl' xc') (.slice ya' yl' yc'))) := ⟨_, _, rfl, tmP_below HB3.out hls'⟩
          dsimp only [tv] at HLS0 HLS0'
          have HTN : Hid (tnodes ts[j] ≤ N) := Nat.le_trans (tnodes_mem (List.getElem_mem hx1)) HNN.out
          generalize tkOf ts[j] = ki at *
          generalize tnOf ts[j] = nu at *
          generalize tmOf ts[j] = mo at *
          generalize ts[j] = tj at *
          have hk8 : Hid (∀ W', Below wr.heap.size wr W' → W'.cell? ⟨w.heap.size, 4, none⟩ = some (.slice (some ⟨b, o, none⟩) len cap) ∧ W'.cell? ⟨w.heap.size + 1, 4, none⟩ = some (.slice (some ⟨b', o', none⟩) len cap') ∧ W'.cell? ⟨b, o + j * 5, none⟩ = some (.int .i64 ki) ∧ W'.cell? ⟨b, o + j * 5 + 1, none⟩ = some (.int .i64 nu) ∧ W'.cell? ⟨b, o + j * 5 + 2, none⟩ = some (.string mo) ∧ W'.cell? ⟨b, o + j * 5 + 3, none⟩ = some (.slice xa xl xc) ∧ W'.cell? ⟨b, o + j * 5 + 4, none⟩ = some (.slice ya yl yc) ∧ W'.cell? ⟨b', o' + j * 5, none⟩ = some (.int .i64 ki) ∧ W'.cell? ⟨b', o' + j * 5 + 1, none⟩ = some (.int .i64 nu) ∧ W'.cell? ⟨b', o' + j * 5 + 2, none⟩ = some (.string mo) ∧ W'.cell? ⟨b', o' + j * 5 + 3, none⟩ = some (.slice xa' xl' xc') ∧ W'.cell? ⟨b', o' + j * 5 + 4, none⟩ = some (.slice ya' yl' yc')) := fun W' h => by
            obtain ⟨x3, y3, x4, y4⟩ := hk.out W' (hbw2.out.trans (h.mono hbw2.out.size))
            exact ⟨x4, y4, (h.cell (p := ⟨b, _, none⟩) hbs2).trans hc0, (h.cell (p := ⟨b, _, none⟩) hbs2).trans hc1, (h.cell (p := ⟨b, _, none⟩) hbs2).trans hc2, (h.cell (p := ⟨b, _, none⟩) hbs2).trans hc3, (h.cell (p := ⟨b, _, none⟩) hbs2).trans hc4, (h.cell (p := ⟨b', _, none⟩) hbs2').trans hc0', (h.cell (p := ⟨b', _, none⟩) hbs2').trans hc1', (h.cell (p := ⟨b', _, none⟩) hbs2').trans hc2', (h.cell (p := ⟨b', _, none⟩) hbs2').trans hc3', (h.cell (p := ⟨b', _, none⟩) hbs2').trans hc4'⟩
          have h0 : (0 : Int) ≤ (j : Int) := by omega
          have hji : (j : Int) < (len : Int) := by omega
          clear hls hls' hbs hbs'
          go_wp2_with fail
          refine wp_region_held_drew (S := fun W' => W'.cell? ⟨w.heap.size, 4, none⟩ = some (.slice (some ⟨b, o, none⟩) len cap) ∧ W'.cell? ⟨w.heap.size + 1, 4, none⟩ = some (.slice (some ⟨b', o', none⟩) len cap') ∧ W'.cell? ⟨b, o + j * 5, none⟩ = some (.int .i64 ki) ∧ W'.cell? ⟨b, o + j * 5 + 1, none⟩ = some (.int .i64 nu) ∧ W'.cell? ⟨b, o + j * 5 + 2, none⟩ = some (.string mo) ∧ W'.cell? ⟨b, o + j * 5 + 3, none⟩ = some (.slice xa xl xc) ∧ W'.cell? ⟨b, o + j * 5 + 4, none⟩ = some (.slice ya yl yc) ∧ W'.cell? ⟨b', o' + j * 5, none⟩ = some (.int .i64 ki) ∧ W'.cell? ⟨b', o' + j * 5 + 1, none⟩ = some (.int .i64 nu) ∧ W'.cell? ⟨b', o' + j * 5 + 2, none⟩ = some (.string mo) ∧ W'.cell? ⟨b', o' + j * 5 + 3, none⟩ = some (.slice xa' xl' xc') ∧ W'.cell? ⟨b', o' + j * 5 + 4, none⟩ = some (.slice ya' yl' yc')) (by kernel_rfl) (hk8.out _ (Below.refl _ _).drew) (fun hHeld => ?_)
          refine take_in (i := 0) (v := ?_) rfl (by kernel_rfl) (by kernel_rfl) (by kernel_rfl) (fun _ _ _ h => h) (by rfl) ?_ hHeld ?_
          rotate_left
          · intro w hSw
            (try dsimp only at hSw)
            go_simp
            try with_reducible rfl
          try simp only [Act.put, List.setIfInBounds_toArray, List.set_cons_zero, List.set_cons_succ]
          refine take_in (i := 1) (v := ?_) rfl (by kernel_rfl) (by kernel_rfl) (by kernel_rfl) (fun _ _ _ h => h) (by rfl) ?_ hHeld ?_
          rotate_left
          · intro w hSw
            (try dsimp only at hSw)
            go_simp
            try with_reducible rfl
          try simp only [Act.put, List.setIfInBounds_toArray, List.set_cons_zero, List.set_cons_succ]
          refine take_in (i := 2) (v := ?_) rfl (by kernel_rfl) (by kernel_rfl) (by kernel_rfl) (fun _ _ _ h => h) (by rfl) ?_ hHeld ?_
          rotate_left
          · intro w hSw
            (try dsimp only at hSw)
            go_simp
            try with_reducible rfl
          try simp only [Act.put, List.setIfInBounds_toArray, List.set_cons_zero, List.set_cons_succ]
          refine take_in (i := 3) (v := ?_) rfl (by kernel_rfl) (by kernel_rfl) (by kernel_rfl) (fun _ _ _ h => h) (by rfl) ?_ hHeld ?_
          rotate_left
          · intro w hSw
            (try dsimp only at hSw)
            go_simp
            try with_reducible rfl
          try simp only [Act.put, List.setIfInBounds_toArray, List.set_cons_zero, List.set_cons_succ]
          refine take_in (i := 4) (v := ?_) rfl (by kernel_rfl) (by kernel_rfl) (by kernel_rfl) (fun _ _ _ h => h) (by rfl) ?_ hHeld ?_
          rotate_left
          · intro w hSw
            (try dsimp only at hSw)
            go_simp
            try with_reducible rfl
          try simp only [Act.put, List.setIfInBounds_toArray, List.set_cons_zero, List.set_cons_succ]
          refine take_in (i := 5) (v := ?_) rfl (by kernel_rfl) (by kernel_rfl) (by kernel_rfl) (fun _ _ _ h => h) (by rfl) ?_ hHeld ?_
          rotate_left
          · intro w hSw
            (try dsimp only at hSw)
            go_simp
            try with_reducible rfl
          try simp only [Act.put, List.setIfInBounds_toArray, List.set_cons_zero, List.set_cons_succ]
          refine take_in (i := 6) (v := ?_) rfl (by kernel_rfl) (by kernel_rfl) (by kernel_rfl) (fun _ _ _ h => h) (by rfl) ?_ hHeld ?_
          rotate_left
          · intro w hSw
            (try dsimp only at hSw)
            go_simp
            try with_reducible rfl
          try simp only [Act.put, List.setIfInBounds_toArray, List.set_cons_zero, List.set_cons_succ]
          refine take_in (i := 7) (v := ?_) rfl (by kernel_rfl) (by kernel_rfl) (by kernel_rfl) (fun _ _ _ h => h) (by rfl) ?_ hHeld ?_
          rotate_left
          · intro w hSw
            (try dsimp only at hSw)
            go_simp
            try with_reducible rfl
          try simp only [Act.put, List.setIfInBounds_toArray, List.set_cons_zero, List.set_cons_succ]
          refine take_in (i := 8) (v := ?_) rfl (by kernel_rfl) (by kernel_rfl) (by kernel_rfl) (fun _ _ _ h => h) (by rfl) ?_ hHeld ?_
          rotate_left
          · intro w hSw
            (try dsimp only at hSw)
            go_simp
            try with_reducible rfl
          try simp only [Act.put, List.setIfInBounds_toArray, List.set_cons_zero, List.set_cons_succ]
          refine take_in (i := 9) (v := ?_) rfl (by kernel_rfl) (by kernel_rfl) (by kernel_rfl) (fun _ _ _ h => h) (by rfl) ?_ hHeld ?_
          rotate_left
          · intro w hSw
            (try dsimp only at hSw)
            go_simp
            try with_reducible rfl
          try simp only [Act.put, List.setIfInBounds_toArray, List.set_cons_zero, List.set_cons_succ]
          refine call_in (i := 10) rfl (by kernel_rfl) (fun K hK => ?_)
          clear hHeld
          go_simp
          go_at_call 16
          refine (IH.out tj _ _ _ HTN.out (HLS0.out.below (Below.refl _ _).drew) (HLS0'.out.below (Below.refl _ _).drew)).mono ?_
          rintro e w9 ⟨rfl, hb9⟩
          have H8 := Lib.hid ((Below.refl _ _).drew.trans hb9)
          clear hb9

          try (go_wp2_with fail)
          refine hK.out _ _ (hk8.out _ H8.out) (fun hHeld => ?_)
          clear hK K
          try simp only [Act.put, List.setIfInBounds_toArray, List.set_cons_zero, List.set_cons_succ]
          refine take_in (i := 11) (v := ?_) rfl (by kernel_rfl) (by kernel_rfl) (by kernel_rfl) (fun _ _ _ h => h) (by rfl) ?_ hHeld ?_
          rotate_left
          · intro w hSw
            (try dsimp only at hSw)
            go_simp
            try with_reducible rfl
          try simp only [Act.put, List.setIfInBounds_toArray, List.set_cons_zero, List.set_cons_succ]
          refine wpAnyH_done (by kernel_rfl) ?_ _
          go_wp2_with fail
          go_roundw
          case rel => exact ⟨j + 1, by omega, by go_num, hbw2.out.trans (H8.out.mono hbw2.out.size)⟩
          case measure => simp [intOf]; omega
        · obtain rfl : j = len := by omega
          have hln : decide ((j : Int) < (j : Int)) = false := by simp
          go_wp2_with fail
          go_ret
          exact ⟨rfl, HB3.out⟩
theorem sameTerm_is (t : Tm) (v v' : Value) (w : World) (hv : TmV w t v) (hv' : TmV w t v') : Calls Tryd.prog 16 #[v, v'] w (Ret w (.bool true)) :=
  sameTerm_up (tnodes t) t v v' w (Nat.le_refl _) hv hv'
end Trm
end Go.Proofs.YtlijdgamobpndaaDoor
