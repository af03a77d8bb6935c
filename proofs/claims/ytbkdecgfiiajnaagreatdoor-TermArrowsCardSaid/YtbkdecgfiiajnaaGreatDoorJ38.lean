import Derived.Test.YtbkdecgfiiajnaaGreatDoorJ16
import Derived.Deep.RegionLaw
import Derived.Test.YtbkdecgfiiajnaaGreatDoorJ21
/-
  The contract of the statements' helper CopyTerm: the same term, in new memory.
  Conditions: the term lies in memory as told by 'TmV'; it has at most 100000 nodes, each level in it at most 1000.
-/
namespace Go.Proofs.YtbkdecgfiiajnaaGreatDoor
open Go.RowKit
open Lvl
namespace Trm

/-- The world behind one round: what lay there at the loop's begin is kept, but for the box. -/
theorem grown_round {W wr wA w2 : World} {B : Nat} {O : Obj} {row : Option Nat} {a : Addr} {v : Value} (h : W.grownBy wr (some B)) (hA : Below wr.heap.size wr wA) (hg : (wA.alloc O).grownBy w2 row) (hrow : ∀ k, row = some k → W.heap.size ≤ k) (ha : a.block = B) : W.grownBy (w2.setCell a v) (some B) := by
  have s1 := hA.size
  obtain ⟨h1, h2, h3, h4, h5⟩ := h
  obtain ⟨g1, g2, g3, g4, g5⟩ := hg
  have s2 : (wA.alloc O).heap.size = wA.heap.size + 1 := by simp
  refine ⟨g1.trans (hA.os.trans h1), g2.trans (hA.tape.trans h2), g3.trans (hA.output.trans h3), by rw [setCell_size]; omega, fun k hk hne => ?_⟩
  rw [setCell_far _ _ _ _ (by rw [ha]; intro e; exact hne (by rw [e]))]
  rw [g5 k (by omega) (fun e => by have := hrow k e.symm; omega), heap_alloc_old wA O (by omega), hA.block k (by omega)]
  exact h5 k hk hne
theorem lsP_at {w : World} {P : Nat → Prop} : ∀ {A : Option Addr} {ts : List Lv} {j : Nat}, LsP w P A j ts → ∀ i (h : i < ts.length), ∃ b o s, A = some ⟨b, o, none⟩ ∧ b < w.heap.size ∧ P b ∧ w.cell? ⟨b, o + (j + i) * 3, none⟩ = some (.int .i64 (kindOf ts[i])) ∧ w.cell? ⟨b, o + (j + i) * 3 + 1, none⟩ = some (.int .i64 (numOf ts[i])) ∧ w.cell? ⟨b, o + (j + i) * 3 + 2, none⟩ = some s ∧ LvP w P ts[i] s
  | A, a :: ts, j, h, 0, _ => by
    rw [LsP] at h
    exact h.1
  | A, a :: ts, j, h, i + 1, hi => by
    rw [LsP] at h
    have := lsP_at h.2 i (by simpa using hi)
    rw [show j + 1 + i = j + (i + 1) by omega] at this
    exact this
theorem lsP_get {w : World} {P : Nat → Prop} {A : Option Addr} {ts : List Lv} (h : LsP w P A 0 ts) (i : Nat) (hi : i < ts.length) : ∃ b o s, A = some ⟨b, o, none⟩ ∧ b < w.heap.size ∧ P b ∧ w.cell? ⟨b, o + i * 3, none⟩ = some (.int .i64 (kindOf ts[i])) ∧ w.cell? ⟨b, o + i * 3 + 1, none⟩ = some (.int .i64 (numOf ts[i])) ∧ w.cell? ⟨b, o + i * 3 + 2, none⟩ = some s ∧ LvP w P ts[i] s := by
  have := lsP_at h i hi
  rw [Nat.zero_add] at this
  exact this
mutual
theorem okC_any : ∀ (t : Tm) (d e : Int), okC cAll t d → okC cAll t e
  | .mk k n m ls ts, d, e, h => by
    rw [okC] at h ⊢
    exact ⟨⟨trivial, h.1.2⟩, okCL_any k ts.length ts 0 d e h.2⟩
theorem okCL_any (k : Int) (len : Nat) : ∀ (ts : List Tm) (i : Nat) (d e : Int), okCL cAll k len ts i d → okCL cAll k len ts i e
  | [], _, _, _, _ => by rw [okCL]; trivial
  | a :: ts, i, d, e, h => by
    rw [okCL] at h ⊢
    exact ⟨okC_any a _ _ h.1, okCL_any k len ts (i + 1) d e h.2⟩
end
theorem lvOk_arg {k n : Int} {m : ByteArray} {ls : List Lv} {ts : List Tm} (h : lvOk (.mk k n m ls ts)) (j : Nat) (hj : j < ts.length) : lvOk ts[j] := by
  unfold lvOk at h ⊢
  rw [okC] at h
  exact okC_any _ _ _ (okCL_get _ _ _ ts 0 0 h.2 j hj)
theorem lvlOk_get {t : Tm} (h : lvOk t) : (∀ l ∈ tlOf t, nodes l ≤ 1000) ∧ ∀ a ∈ taOf t, lvOk a := by
  cases t with
  | mk k n m ls ts =>
  refine ⟨?_, fun a ha => ?_⟩
  · unfold lvOk at h
    rw [okC] at h
    exact h.1.2
  · obtain ⟨j, hj, rfl⟩ := List.getElem_of_mem ha
    exact lvOk_arg h j hj

theorem roundL {wr wA w2 : World} {base j g cap' p : Nat} {ki nu : Int} {V s9 V' : Value} {ls : List Lv} {ss : List Value} {tj : Lv} {O : Obj} {B : Nat}
    (hsz : base ≤ wr.heap.size) (hB : B < base) (hl : (ls.take j).length = ss.length) (hjl : (ls.take j).length = j)
    (ho : wr.ownsRow base 45 3 V j (cells3 (ls.take j) ss))
    (hk : ∀ i (h1 : i < (ls.take j).length) (h2 : i < ss.length), LvP wr (fun b => base ≤ b ∧ V.ownBlock ≠ some b) (ls.take j)[i] ss[i])
    (hki : kindOf tj = ki) (hnu : numOf tj = nu) (htk : ls.take (j + 1) = ls.take j ++ [tj])
    (hbA : Below wr.drew.heap.size wr.drew wA) (hs : LvP wA (fun b => wr.drew.heap.size ≤ b) tj s9)
    (hown : w2.ownsRow base 45 3 (.slice (some ⟨g, 0, none⟩) (j + 1) cap') (j + 1) (cells3 (ls.take j) ss ++ [.int .i64 ki, .int .i64 nu, s9]))
    (hg : (wA.alloc O).grownBy w2 V.ownBlock) (hat : V.ownBlock = some g ∨ g = wA.heap.size + 1) :
    OwnL (w2.setCell ⟨B, p, none⟩ V') base (.slice (some ⟨g, 0, none⟩) (j + 1) cap') (ls.take (j + 1)) := by
  have hd : wr.drew.heap.size = wr.heap.size := rfl
  have hO : OwnL w2 base (.slice (some ⟨g, 0, none⟩) (j + 1) cap') (ls.take (j + 1)) := by
    have := ownL_step (w0 := wr.drew) (w1 := wA) (w2 := w2) (base := base) (V := V) (ts := ls.take j) (ss := ss) (a := tj) (s := s9) (H := wA.heap.size + 1) (O := O) (g := g) (cap := cap') hl (by rw [hjl]; exact own_below ho (Below.refl _ _).drew) (fun i h1 h2 => lvP_move (w := wr) (w' := wr.drew) (fun b _ hp => ⟨hp, rfl⟩) (Nat.le_refl _) _ _ (hk i h1 h2)) (by omega) hbA hs (by simp) (by rw [hjl, hki, hnu]; exact hown) hg hat
    rw [hjl] at this
    rw [htk]
    exact this
  exact ownL_move hO (fun b _ hb => setCell_far _ _ _ _ (by show b ≠ B; omega)) (by rw [setCell_size]; exact Nat.le_refl _)
theorem roundT {wr wA w2 : World} {base j g cap' p : Nat} {ki nu : Int} {mo : ByteArray} {V l9 s9 V' : Value} {ts : List Tm} {ss : List (Value × Value)} {tj : Tm} {O : Obj} {B : Nat}
    (hsz : base ≤ wr.heap.size) (hB : B < base) (hl : (ts.take j).length = ss.length) (hjl : (ts.take j).length = j)
    (ho : wr.ownsRow base 25 5 V j (cells5 (ts.take j) ss))
    (hk : ∀ i (h1 : i < (ts.take j).length) (h2 : i < ss.length), TmP wr (fun b => base ≤ b ∧ V.ownBlock ≠ some b) (ts.take j)[i] ss[i].1 ss[i].2)
    (hki : tkOf tj = ki) (hnu : tnOf tj = nu) (hmo : tmOf tj = mo) (htk : ts.take (j + 1) = ts.take j ++ [tj])
    (hbA : Below wr.drew.heap.size wr.drew wA) (hs : TmP wA (fun b => wr.drew.heap.size ≤ b) tj l9 s9)
    (hown : w2.ownsRow base 25 5 (.slice (some ⟨g, 0, none⟩) (j + 1) cap') (j + 1) (cells5 (ts.take j) ss ++ [.int .i64 ki, .int .i64 nu, .string mo, l9, s9]))
    (hg : (wA.alloc O).grownBy w2 V.ownBlock) (hat : V.ownBlock = some g ∨ g = wA.heap.size + 1) :
    OwnT (w2.setCell ⟨B, p, none⟩ V') base (.slice (some ⟨g, 0, none⟩) (j + 1) cap') (ts.take (j + 1)) := by
  have hd : wr.drew.heap.size = wr.heap.size := rfl
  have hO : OwnT w2 base (.slice (some ⟨g, 0, none⟩) (j + 1) cap') (ts.take (j + 1)) := by
    have := ownT_step (w0 := wr.drew) (w1 := wA) (w2 := w2) (base := base) (V := V) (ts := ts.take j) (ss := ss) (a := tj) (l := l9) (s := s9) (H := wA.heap.size + 1) (O := O) (g := g) (cap := cap') hl (fun i h1 h2 => tmP_move (w := wr) (w' := wr.drew) (fun b _ hp => ⟨hp, rfl⟩) (Nat.le_refl _) _ _ _ (hk i h1 h2)) hbA (tmP_new (own_below ho (Below.refl _ _).drew) (by omega) hs) (by simp) (by rw [hjl, hki, hnu, hmo]; exact hown) hg hat
    rw [hjl] at this
    rw [htk]
    exact this
  exact ownT_move hO (fun b _ hb => setCell_far _ _ _ _ (by show b ≠ B; omega)) (by rw [setCell_size]; exact Nat.le_refl _)
theorem arr_set {w : World} {b p : Nat} {arr : Array Value} {v : Value} {T : TypeId} (h : w.heap[b]? = some (.cells arr T (0, 0))) : (w.setCell ⟨b, p, none⟩ v).heap[b]? = some (.cells (arr.setIfInBounds p v) T (0, 0)) := setCell_arr h

theorem ownT_base {w : World} {base base' : Nat} {V : Value} {ts : List Tm} (h : OwnT w base' V ts) (hle : base ≤ base') : OwnT w base V ts := by
  obtain ⟨ss, hl, ho, hk⟩ := h
  refine ⟨ss, hl, ⟨ho.1, ?_⟩, fun i h1 h2 => tmP_weak (fun b hp => ⟨Nat.le_trans hle hp.1, hp.2⟩) (hk i h1 h2)⟩
  rcases ho.2 with h1 | ⟨g, cap, cur, e, hbg, hr⟩
  · exact .inl h1
  · exact .inr ⟨g, cap, cur, e, Nat.le_trans hle hbg, hr⟩
/-- A term is answered in new memory, its arguments in a row of their own. -/
def TmRetO (w : World) (t : Tm) (e : Ending) (w' : World) : Prop :=
  ∃ l s, e = .returned (tv t l s) ∧ TmP w' (fun b => w.heap.size ≤ b) t l s ∧ OwnT w' w.heap.size s (taOf t) ∧ Below w.heap.size w w'

set_option maxRecDepth 100000 in
set_option maxHeartbeats 4000000 in
theorem copyTerm_up : ∀ (N : Nat) (t : Tm) (v : Value) (w : World), tnodes t ≤ N → tnodes t ≤ 100000 → lvOk t → TmV w t v →
    Calls Tryz.prog 21 #[v] w (TmRetO w t) := by
  intro N
  induction N with
  | zero => intro t v w h _ _ _; have := tnodes_pos t; omega
  | succ N ih =>
  intro t v w hN hM hlv hv
  obtain ⟨i0, hi0, hz0, hz1, hz2⟩ := info_parts infoTm
  obtain ⟨j0, hj0, hy0, hy1, hy2⟩ := info_parts infoLv
  have hlv2 := lvlOk_get hlv
  obtain ⟨l, s, rfl, ht⟩ := hv
  cases t with
  | mk k n m ls ts =>
  have HTT0 := Lib.hid ht
  rw [TmP, LvP] at ht
  obtain ⟨⟨LA, ll, lc, rfl, l1, l2, l3, l4, l5⟩, A, len, cap, rfl, h1, h2, h2b, h3, h4⟩ := ht
  have IH := Lib.hid ih
  have HLS := Lib.hid l5
  have HTS := Lib.hid h4
  have HLN := Lib.hid l1
  have HN := Lib.hid h1
  have HLV := Lib.hid hlv2
  have HNN : Hid (nodesL ls ≤ 100000 ∧ tnodesL ts ≤ N ∧ tnodesL ts ≤ 100000) := by
    rw [tnodes] at hN hM
    have : nodesL ls ≤ 100000 ∧ tnodesL ts ≤ N ∧ tnodesL ts ≤ 100000 := ⟨by omega, by omega, by omega⟩
    exact this
  have hll : ll ≤ 100000 := by
    have h5 := len_nodes ls
    have h6 := HNN.out.1
    omega
  have hlen9 : len ≤ 100000 := by
    have h5 := tlen_nodes ts
    have h6 := HNN.out.2.2
    omega
  clear h4 h1 h3 l5 l1 l4 hN hM ih hlv hlv2
  show Calls Tryz.prog 21 #[.agg #[.int .i64 k, .int .i64 n, .string m, .slice LA ll lc, .slice A len cap]] w (TmRetO w (.mk k n m ls ts))
  go_enter Tryz.func21, Tryz.ntmps21
  go_wp2_with fail
  have z1 : (w.alloc (.cells #[.int .i64 k, .int .i64 n, .string m, .slice LA ll lc, .slice A len cap] 25)).heap.size = w.heap.size + 1 := by simp
  have z2 : ((w.alloc (.cells #[.int .i64 k, .int .i64 n, .string m, .slice LA ll lc, .slice A len cap] 25)).alloc (.cells #[.int .i64 0, .int .i64 0, .string ⟨#[]⟩, .slice none 0 0, .slice none 0 0] 25)).heap.size = w.heap.size + 1 + 1 := by simp
  have z3 : (((w.alloc (.cells #[.int .i64 k, .int .i64 n, .string m, .slice LA ll lc, .slice A len cap] 25)).alloc (.cells #[.int .i64 0, .int .i64 0, .string ⟨#[]⟩, .slice none 0 0, .slice none 0 0] 25)).alloc (.cells #[.int .i64 k, .int .i64 n, .string m, .slice none 0 0, .slice none 0 0] 25)).heap.size = w.heap.size + 1 + 1 + 1 := by simp
  have r0 : (w.alloc (.cells #[.int .i64 k, .int .i64 n, .string m, .slice LA ll lc, .slice A len cap] 25)).heap[w.heap.size]? = some (Obj.cells #[.int .i64 k, .int .i64 n, .string m, .slice LA ll lc, .slice A len cap] 25 (0, 0)) := by
    have := heap_alloc_new w (.cells #[.int .i64 k, .int .i64 n, .string m, .slice LA ll lc, .slice A len cap] 25)
    exact this
  have r1 : ((w.alloc (.cells #[.int .i64 k, .int .i64 n, .string m, .slice LA ll lc, .slice A len cap] 25)).alloc (.cells #[.int .i64 0, .int .i64 0, .string ⟨#[]⟩, .slice none 0 0, .slice none 0 0] 25)).heap[w.heap.size + 1]? = some (Obj.cells #[.int .i64 0, .int .i64 0, .string ⟨#[]⟩, .slice none 0 0, .slice none 0 0] 25 (0, 0)) := by
    have := heap_alloc_new (w.alloc (.cells #[.int .i64 k, .int .i64 n, .string m, .slice LA ll lc, .slice A len cap] 25)) (.cells #[.int .i64 0, .int .i64 0, .string ⟨#[]⟩, .slice none 0 0, .slice none 0 0] 25)
    rwa [z1] at this
  have r2 : (((w.alloc (.cells #[.int .i64 k, .int .i64 n, .string m, .slice LA ll lc, .slice A len cap] 25)).alloc (.cells #[.int .i64 0, .int .i64 0, .string ⟨#[]⟩, .slice none 0 0, .slice none 0 0] 25)).alloc (.cells #[.int .i64 k, .int .i64 n, .string m, .slice none 0 0, .slice none 0 0] 25)).heap[w.heap.size + 1 + 1]? = some (Obj.cells #[.int .i64 k, .int .i64 n, .string m, .slice none 0 0, .slice none 0 0] 25 (0, 0)) := by
    have := heap_alloc_new ((w.alloc (.cells #[.int .i64 k, .int .i64 n, .string m, .slice LA ll lc, .slice A len cap] 25)).alloc (.cells #[.int .i64 0, .int .i64 0, .string ⟨#[]⟩, .slice none 0 0, .slice none 0 0] 25)) (.cells #[.int .i64 k, .int .i64 n, .string m, .slice none 0 0, .slice none 0 0] 25)
    rwa [z2] at this
  have HB := Lib.hid (((below_lit w (.cells #[.int .i64 k, .int .i64 n, .string m, .slice LA ll lc, .slice A len cap] 25)).trans ((below_lit (w.alloc (.cells #[.int .i64 k, .int .i64 n, .string m, .slice LA ll lc, .slice A len cap] 25)) (.cells #[.int .i64 0, .int .i64 0, .string ⟨#[]⟩, .slice none 0 0, .slice none 0 0] 25)).mono (below_lit w (.cells #[.int .i64 k, .int .i64 n, .string m, .slice LA ll lc, .slice A len cap] 25)).size)).trans ((below_lit ((w.alloc (.cells #[.int .i64 k, .int .i64 n, .string m, .slice LA ll lc, .slice A len cap] 25)).alloc (.cells #[.int .i64 0, .int .i64 0, .string ⟨#[]⟩, .slice none 0 0, .slice none 0 0] 25)) (.cells #[.int .i64 k, .int .i64 n, .string m, .slice none 0 0, .slice none 0 0] 25)).mono ((below_lit w (.cells #[.int .i64 k, .int .i64 n, .string m, .slice LA ll lc, .slice A len cap] 25)).trans ((below_lit (w.alloc (.cells #[.int .i64 k, .int .i64 n, .string m, .slice LA ll lc, .slice A len cap] 25)) (.cells #[.int .i64 0, .int .i64 0, .string ⟨#[]⟩, .slice none 0 0, .slice none 0 0] 25)).mono (below_lit w (.cells #[.int .i64 k, .int .i64 n, .string m, .slice LA ll lc, .slice A len cap] 25)).size)).size))
  have HR0 := Lib.hid ((heap_alloc_old ((w.alloc (.cells #[.int .i64 k, .int .i64 n, .string m, .slice LA ll lc, .slice A len cap] 25)).alloc (.cells #[.int .i64 0, .int .i64 0, .string ⟨#[]⟩, .slice none 0 0, .slice none 0 0] 25)) (.cells #[.int .i64 k, .int .i64 n, .string m, .slice none 0 0, .slice none 0 0] 25) (by rw [z2]; omega)).trans ((heap_alloc_old (w.alloc (.cells #[.int .i64 k, .int .i64 n, .string m, .slice LA ll lc, .slice A len cap] 25)) (.cells #[.int .i64 0, .int .i64 0, .string ⟨#[]⟩, .slice none 0 0, .slice none 0 0] 25) (by rw [z1]; omega)).trans (r0)))
  have HR1 := Lib.hid ((heap_alloc_old ((w.alloc (.cells #[.int .i64 k, .int .i64 n, .string m, .slice LA ll lc, .slice A len cap] 25)).alloc (.cells #[.int .i64 0, .int .i64 0, .string ⟨#[]⟩, .slice none 0 0, .slice none 0 0] 25)) (.cells #[.int .i64 k, .int .i64 n, .string m, .slice none 0 0, .slice none 0 0] 25) (by rw [z2]; omega)).trans (r1))
  have HR2 := Lib.hid (r2)
  clear r0 r1 r2
  generalize (((w.alloc (.cells #[.int .i64 k, .int .i64 n, .string m, .slice LA ll lc, .slice A len cap] 25)).alloc (.cells #[.int .i64 0, .int .i64 0, .string ⟨#[]⟩, .slice none 0 0, .slice none 0 0] 25)).alloc (.cells #[.int .i64 k, .int .i64 n, .string m, .slice none 0 0, .slice none 0 0] 25)) = W at *
  have HZ := Lib.hid z3
  clear z1 z2 z3
  have HROW := Lib.hid HR2.out
  have HRES := Lib.hid HR1.out
  have HBX := Lib.hid HR0.out
  have hszW : W.heap.size = w.heap.size + 1 + 1 + 1 := HZ.out
  clear HR0 HR1 HR2 HZ HTT0
  go_loopw [4] (fun i wr => ∃ (j : Nat) (V : Value), j ≤ ll ∧ i = .int .i64 j ∧ Hid (wr.heap[w.heap.size + 1 + 1]? = some (.cells #[.int .i64 k, .int .i64 n, .string m, V, .slice none 0 0] 25 (0, 0))) ∧ OwnL wr W.heap.size V (ls.take j) ∧ Hid (W.grownBy wr (some (w.heap.size + 1 + 1)))) (fun i _ => ll - (intOf i).toNat)
  case atStart => exact ⟨0, .slice none 0 0, Nat.zero_le _, rfl, HROW.out, ownL_nil _ _, grown_of _ (Below.refl _ _)⟩
  case round =>
    obtain ⟨j, V, hj, rfl, hrow, hown, hgr⟩ := hrel
    have HOWN := Lib.hid hown
    have hszg := grown_size hgr.out
    have HB2 := Lib.hid (HB.out.grown hgr.out HB.out.size (fun k e => by cases e; omega))
    have hbox := (hgr.out.block w.heap.size (by omega) (by simp; omega)).trans HBX.out
    obtain ⟨_, _, _, x3, x4⟩ := five_cells hbox
    obtain ⟨d0, d1, d2, d3, d4⟩ := five_cells hrow.out
    clear hown
    by_cases hlt : j < ll
    · have hx1 : j < ls.length := by rw [HLN.out]; exact hlt
      have hln : decide ((j : Int) < (ll : Int)) = true := by simp; omega
      obtain ⟨b, o, s, rfl, hbs, _, hc0, hc1, hc2, hls⟩ := lsP_get HLS.out j hx1
      have HLVV : Hid (LvV wr ls[j] (.agg #[.int .i64 (kindOf ls[j]), .int .i64 (numOf ls[j]), s])) := ⟨s, rfl, lvS_below HB2.out _ _ (lvS_of _ _ hls)⟩
      have HTN : Hid (nodes ls[j] ≤ 1000) := HLV.out.1 _ (List.getElem_mem hx1)
      have HTK := Lib.hid (show ls.take (j + 1) = ls.take j ++ [ls[j]] by rw [List.take_add_one, List.getElem?_eq_getElem hx1]; rfl)
      have q1 : (0 : Int) ≤ (j : Int) := by omega
      have q2 : (j : Int) < (ll : Int) := by omega
      have hbs2 := Nat.lt_of_lt_of_le hbs HB2.out.size
      have hc0 := (HB2.out.cell (p := ⟨b, _, none⟩) hbs).trans hc0
      have hc1 := (HB2.out.cell (p := ⟨b, _, none⟩) hbs).trans hc1
      have hc2 := (HB2.out.cell (p := ⟨b, _, none⟩) hbs).trans hc2
      generalize hki : kindOf ls[j] = ki at *
      generalize hnu : numOf ls[j] = nu at *
      generalize ls[j] = tj at *
      have HKI := Lib.hid hki
      have HNU := Lib.hid hnu
      clear hls hki hnu
      have hk : Hid (∀ W', Below wr.heap.size wr W' → W'.cell? ⟨w.heap.size, 3, none⟩ = some (.slice (some ⟨b, o, none⟩) ll lc) ∧ W'.cell? ⟨b, o + j * 3, none⟩ = some (.int .i64 ki) ∧ W'.cell? ⟨b, o + j * 3 + 1, none⟩ = some (.int .i64 nu) ∧ W'.cell? ⟨b, o + j * 3 + 2, none⟩ = some s ∧ W'.cell? ⟨w.heap.size + 1 + 1, 3, none⟩ = some V) := fun W' hb =>
        ⟨(hb.cell (p := ⟨w.heap.size, 3, none⟩) (by show w.heap.size < wr.heap.size; omega)).trans x3, (hb.cell (p := ⟨b, _, none⟩) hbs2).trans hc0, (hb.cell (p := ⟨b, _, none⟩) hbs2).trans hc1, (hb.cell (p := ⟨b, _, none⟩) hbs2).trans hc2, (hb.cell (p := ⟨w.heap.size + 1 + 1, 3, none⟩) (by show w.heap.size + 1 + 1 < wr.heap.size; omega)).trans d3⟩
      obtain ⟨ss, hsl, hso, hsk⟩ := HOWN.out
      have hjl : (ls.take j).length = j := by rw [List.length_take]; omega
      rw [hjl] at hso
      have HO := Lib.hid hso
      have HSL := Lib.hid hsl
      have HSK := Lib.hid hsk
      have hbo1 : j + 1 ≤ maxLen := by unfold maxLen; omega
      have hbo2 : (j + 1) * 40 ≤ 140737488355328 := by omega
      have hVge : ∀ k, V.ownBlock = some k → W.heap.size ≤ k := own_block hso
      have hVne : some (w.heap.size + 1 + 1) ≠ V.ownBlock := fun e => by
        have := hVge (w.heap.size + 1 + 1) e.symm
        omega
      have hltB3 : w.heap.size + 1 + 1 < wr.drew.heap.size := by show w.heap.size + 1 + 1 < wr.heap.size; omega
      have hbB2 : ∀ wA, Below wr.drew.heap.size wr.drew wA → w.heap.size + 1 + 1 < wA.heap.size := fun wA h => Nat.lt_of_lt_of_le hltB3 h.size
      have hbB3 : ∀ wA O, Below wr.drew.heap.size wr.drew wA → w.heap.size + 1 + 1 < (wA.alloc O).heap.size := fun wA O h => by
        have := hbB2 wA h
        simp; omega
      clear hso hsl hsk x4 d0 d1 d2 d4
      go_wp2_with fail
      go_region_law (first | (go_simp; go_at_call 48; refine (copyLevel_up (nodes tj) tj _ _ (Nat.le_refl _) HTN.out (HLVV.out.below ((Below.refl _ _).drew))).mono ?_; rintro e wA ⟨s9, rfl, hs9, hbA⟩; rw [HKI.out, HNU.out]; have hkA := hk.out wA ((Below.refl _ _).drew.trans hbA); have hkB := hk.out (wA.alloc (.cells #[.int .i64 ki, .int .i64 nu, s9] 45)) (((Below.refl _ _).drew.trans hbA).alloc (by have := hbA.size; exact this) _); obtain ⟨p1, p2, p3, p4, p5⟩ := hkA; obtain ⟨r1, r2, r3, r4, r5⟩ := hkB) | (refine step_append_lies _ rfl (.tmp 21) (.tmp 28) 22 rfl W.heap.size 45 j0 (.agg #[.int .i64 0, .int .i64 0, .slice none 0 0]) 3 40 Tryz.underlying22 hj0 hy0 hy1 hy2 rfl (by decide) V j (cells3 (ls.take j) ss) (by simp [Act.eval]) (own_alloc (own_below HO.out ((Below.refl _ _).drew.trans hbA)) _) ⟨wA.heap.size, 0, none⟩ 1 1 [.int .i64 ki, .int .i64 nu, s9] (by simp [Act.eval]) rfl (World.news_of_block (heap_alloc_new wA _)) (three_oneCell (lvP_one hs9)) (by decide) hbo1 hbo2 ?_ (wA.heap.size + 1) (by simp) ?_; (have := hbA.size; have h2 : wr.drew.heap.size = wr.heap.size := rfl; simp; omega); intro g cap' w2 hown2 hgrow hat hlt2; have hw2 := (hgrow.block (w.heap.size + 1 + 1) (hbB3 _ _ hbA) hVne).trans ((heap_alloc_old wA _ (hbB2 _ hbA)).trans ((hbA.block _ hltB3).trans hrow.out)); obtain ⟨_, _, _, hc3, hc4⟩ := five_cells hw2; have hf3 := frozen0 (p := 3) hw2))
      all_goals (
        have HF1 := Lib.hid (setCell_arr (p := 3) (v := .slice (some ⟨g, 0, none⟩) (j + 1) cap') hw2)
        have f2 := roundL (p := 3) (B := w.heap.size + 1 + 1) (V' := .slice (some ⟨g, 0, none⟩) (j + 1) cap') hszg (by omega) HSL.out hjl HO.out HSK.out HKI.out HNU.out HTK.out hbA hs9 hown2 hgrow hat
        have f3 := grown_round (a := ⟨w.heap.size + 1 + 1, 3, none⟩) (v := .slice (some ⟨g, 0, none⟩) (j + 1) cap') hgr.out ((Below.refl _ _).drew.trans hbA) hgrow hVge rfl
        clear hown2 hgrow hat hw2 hs9 hbA
        generalize w2.setCell ⟨w.heap.size + 1 + 1, 3, none⟩ (.slice (some ⟨g, 0, none⟩) (j + 1) cap') = w3 at *
        go_wp2_with fail
        go_roundw
        case rel => exact ⟨j + 1, _, by omega, by go_num, HF1.out, f2, f3⟩
        case measure => simp [intOf]; omega)
    · obtain rfl : j = ll := by omega
      have hln : decide ((j : Int) < (j : Int)) = false := by simp
      have h7 : ls.take j = ls := List.take_of_length_le (by rw [HLN.out]; exact Nat.le_refl _)
      rw [h7] at HOWN
      have HVL := Lib.hid (ownL_lvP HOWN.out (by rw [HLN.out]; omega) 0 0)
      obtain ⟨va, vl, vc, rfl⟩ := ownL_slice HOWN.out
      have HB1 := Lib.hid HB2.out
      have HROW1 := Lib.hid hrow.out
      have HBX1 := Lib.hid hbox
      have HRES1 := Lib.hid ((hgr.out.block (w.heap.size + 1) (by omega) (by simp)).trans HRES.out)
      have hsz1 : w.heap.size + 1 + 1 < wr.heap.size := by omega
      clear HB2 hbox hrow hgr HRES HROW HBX HOWN HLS HLN h7 d0 d1 d2 d3
      go_wp2_with fail
      generalize wr = W1 at *
      go_loopw [5] (fun i wr => ∃ (j : Nat) (V : Value), j ≤ len ∧ i = .int .i64 j ∧ Hid (wr.heap[w.heap.size + 1 + 1]? = some (.cells #[.int .i64 k, .int .i64 n, .string m, (.slice va vl vc), V] 25 (0, 0))) ∧ OwnT wr W1.heap.size V (ts.take j) ∧ Hid (W1.grownBy wr (some (w.heap.size + 1 + 1)))) (fun i _ => len - (intOf i).toNat)
      case atStart => exact ⟨0, .slice none 0 0, Nat.zero_le _, rfl, HROW1.out, ownT_nil _ _, grown_of _ (Below.refl _ _)⟩
      case round =>
        obtain ⟨j, V, hj, rfl, hrow, hown, hgr⟩ := hrel
        have HOWN := Lib.hid hown
        have hszg := grown_size hgr.out
        have HB2 := Lib.hid (HB1.out.grown hgr.out HB1.out.size (fun k e => by cases e; omega))
        have hbox := (hgr.out.block w.heap.size (by omega) (by simp; omega)).trans HBX1.out
        obtain ⟨_, _, _, x3, x4⟩ := five_cells hbox
        obtain ⟨d0, d1, d2, d3, d4⟩ := five_cells hrow.out
        clear hown
        by_cases hlt : j < len
        · have hx1 : j < ts.length := by rw [HN.out]; exact hlt
          have hln : decide ((j : Int) < (len : Int)) = true := by simp; omega
          obtain ⟨b, o, l, s, rfl, hbs, _, hc0, hc1, hc2, hc3, hc4, htm⟩ := tsP_get HTS.out j hx1
          obtain ⟨⟨xa, xl, xc, rfl⟩, ya, yl, yc, rfl⟩ := tmP_slices htm
          have HTVV : Hid (TmV wr ts[j] (tv ts[j] (.slice xa xl xc) (.slice ya yl yc))) := ⟨_, _, rfl, tmP_below HB2.out htm⟩
          dsimp only [tv] at HTVV
          have HTN : Hid (tnodes ts[j] ≤ N ∧ tnodes ts[j] ≤ 100000 ∧ lvOk ts[j]) := ⟨Nat.le_trans (tnodes_mem (List.getElem_mem hx1)) HNN.out.2.1, Nat.le_trans (tnodes_mem (List.getElem_mem hx1)) HNN.out.2.2, HLV.out.2 _ (List.getElem_mem hx1)⟩
          have HTK := Lib.hid (show ts.take (j + 1) = ts.take j ++ [ts[j]] by rw [List.take_add_one, List.getElem?_eq_getElem hx1]; rfl)
          have q1 : (0 : Int) ≤ (j : Int) := by omega
          have q2 : (j : Int) < (len : Int) := by omega
          have hbs2 := Nat.lt_of_lt_of_le hbs HB2.out.size
          have hc0 := (HB2.out.cell (p := ⟨b, _, none⟩) hbs).trans hc0
          have hc1 := (HB2.out.cell (p := ⟨b, _, none⟩) hbs).trans hc1
          have hc2 := (HB2.out.cell (p := ⟨b, _, none⟩) hbs).trans hc2
          have hc3 := (HB2.out.cell (p := ⟨b, _, none⟩) hbs).trans hc3
          have hc4 := (HB2.out.cell (p := ⟨b, _, none⟩) hbs).trans hc4
          generalize hki : tkOf ts[j] = ki at *
          generalize hnu : tnOf ts[j] = nu at *
          generalize hmo : tmOf ts[j] = mo at *
          generalize ts[j] = tj at *
          have HKI := Lib.hid hki
          have HNU := Lib.hid hnu
          have HMO := Lib.hid hmo
          clear htm hki hnu hmo
          have hk : Hid (∀ W', Below wr.heap.size wr W' → W'.cell? ⟨w.heap.size, 4, none⟩ = some (.slice (some ⟨b, o, none⟩) len cap) ∧ W'.cell? ⟨b, o + j * 5, none⟩ = some (.int .i64 ki) ∧ W'.cell? ⟨b, o + j * 5 + 1, none⟩ = some (.int .i64 nu) ∧ W'.cell? ⟨b, o + j * 5 + 2, none⟩ = some (.string mo) ∧ W'.cell? ⟨b, o + j * 5 + 3, none⟩ = some (.slice xa xl xc) ∧ W'.cell? ⟨b, o + j * 5 + 4, none⟩ = some (.slice ya yl yc) ∧ W'.cell? ⟨w.heap.size + 1 + 1, 4, none⟩ = some V) := fun W' hb =>
            ⟨(hb.cell (p := ⟨w.heap.size, 4, none⟩) (by show w.heap.size < wr.heap.size; omega)).trans x4, (hb.cell (p := ⟨b, _, none⟩) hbs2).trans hc0, (hb.cell (p := ⟨b, _, none⟩) hbs2).trans hc1, (hb.cell (p := ⟨b, _, none⟩) hbs2).trans hc2, (hb.cell (p := ⟨b, _, none⟩) hbs2).trans hc3, (hb.cell (p := ⟨b, _, none⟩) hbs2).trans hc4, (hb.cell (p := ⟨w.heap.size + 1 + 1, 4, none⟩) (by show w.heap.size + 1 + 1 < wr.heap.size; omega)).trans d4⟩
          obtain ⟨ss, hsl, hso, hsk⟩ := HOWN.out
          have hjl : (ts.take j).length = j := by rw [List.length_take]; omega
          rw [hjl] at hso
          have HO := Lib.hid hso
          have HSL := Lib.hid hsl
          have HSK := Lib.hid hsk
          have hbo1 : j + 1 ≤ maxLen := by unfold maxLen; omega
          have hbo2 : (j + 1) * 80 ≤ 140737488355328 := by omega
          have hVge : ∀ k, V.ownBlock = some k → W1.heap.size ≤ k := own_block hso
          have hVne : some (w.heap.size + 1 + 1) ≠ V.ownBlock := fun e => by
            have := hVge (w.heap.size + 1 + 1) e.symm
            omega
          have hltB3 : w.heap.size + 1 + 1 < wr.drew.heap.size := by show w.heap.size + 1 + 1 < wr.heap.size; omega
          have hbB2 : ∀ wA, Below wr.drew.heap.size wr.drew wA → w.heap.size + 1 + 1 < wA.heap.size := fun wA h => Nat.lt_of_lt_of_le hltB3 h.size
          have hbB3 : ∀ wA O, Below wr.drew.heap.size wr.drew wA → w.heap.size + 1 + 1 < (wA.alloc O).heap.size := fun wA O h => by
            have := hbB2 wA h
            simp; omega
          clear hso hsl hsk x3 d0 d1 d2 d3
          go_wp2_with fail
          go_region_law (first | (go_simp; go_at_call 21; refine (IH.out tj _ _ HTN.out.1 HTN.out.2.1 HTN.out.2.2 (HTVV.out.below ((Below.refl _ _).drew))).mono ?_; rintro e wA ⟨l9, s9, rfl, hs9, _, hbA⟩; dsimp only [tv]; rw [HKI.out, HNU.out, HMO.out]; have hkA := hk.out wA ((Below.refl _ _).drew.trans hbA); have hkB := hk.out (wA.alloc (.cells #[.int .i64 ki, .int .i64 nu, .string mo, l9, s9] 25)) (((Below.refl _ _).drew.trans hbA).alloc (by have := hbA.size; exact this) _); obtain ⟨p1, p2, p3, p4, p5, p6, p7⟩ := hkA; obtain ⟨r1, r2, r3, r4, r5, r6, r7⟩ := hkB) | (refine step_append_lies _ rfl (.tmp 39) (.tmp 46) 23 rfl W1.heap.size 25 i0 (.agg #[.int .i64 0, .int .i64 0, .string ⟨#[]⟩, .slice none 0 0, .slice none 0 0]) 5 80 Tryz.underlying23 hi0 hz0 hz1 hz2 rfl (by decide) V j (cells5 (ts.take j) ss) (by simp [Act.eval]) (own_alloc (own_below HO.out ((Below.refl _ _).drew.trans hbA)) _) ⟨wA.heap.size, 0, none⟩ 1 1 [.int .i64 ki, .int .i64 nu, .string mo, l9, s9] (by simp [Act.eval]) rfl (World.news_of_block (heap_alloc_new wA _)) (five_oneCell (tmP_one hs9).1 (tmP_one hs9).2) (by decide) hbo1 hbo2 ?_ (wA.heap.size + 1) (by simp) ?_; (have := hbA.size; have h2 : wr.drew.heap.size = wr.heap.size := rfl; simp; omega); intro g cap' w2 hown2 hgrow hat hlt2; have hw2 := (hgrow.block (w.heap.size + 1 + 1) (hbB3 _ _ hbA) hVne).trans ((heap_alloc_old wA _ (hbB2 _ hbA)).trans ((hbA.block _ hltB3).trans hrow.out)); obtain ⟨_, _, _, hc3, hc4⟩ := five_cells hw2; have hf4 := frozen0 (p := 4) hw2))
          all_goals (
            have HF1 := Lib.hid (setCell_arr (p := 4) (v := .slice (some ⟨g, 0, none⟩) (j + 1) cap') hw2)
            have f2 := roundT (p := 4) (B := w.heap.size + 1 + 1) (V' := .slice (some ⟨g, 0, none⟩) (j + 1) cap') hszg (by omega) HSL.out hjl HO.out HSK.out HKI.out HNU.out HMO.out HTK.out hbA hs9 hown2 hgrow hat
            have f3 := grown_round (a := ⟨w.heap.size + 1 + 1, 4, none⟩) (v := .slice (some ⟨g, 0, none⟩) (j + 1) cap') hgr.out ((Below.refl _ _).drew.trans hbA) hgrow hVge rfl
            clear hown2 hgrow hat hw2 hs9 hbA
            generalize w2.setCell ⟨w.heap.size + 1 + 1, 4, none⟩ (.slice (some ⟨g, 0, none⟩) (j + 1) cap') = w3 at *
            go_wp2_with fail
            go_roundw
            case rel => exact ⟨j + 1, _, by omega, by go_num, HF1.out, f2, f3⟩
            case measure => simp [intOf]; omega)
        · obtain rfl : j = len := by omega
          have hln : decide ((j : Int) < (j : Int)) = false := by simp
          have h7 : ts.take j = ts := List.take_of_length_le (by rw [HN.out]; exact Nat.le_refl _)
          rw [h7] at HOWN
          obtain ⟨ua, ul, uc, rfl⟩ := ownT_slice HOWN.out
          have hr1 := (hgr.out.block (w.heap.size + 1) (by omega) (by simp)).trans HRES1.out
          obtain ⟨e0, e1, e2, e3, e4⟩ := five_cells hr1
          have g0 := frozen0 (p := 0) hr1
          have g1 := frozen0 (p := 1) hr1
          have g2 := frozen0 (p := 2) hr1
          have g3 := frozen0 (p := 3) hr1
          have g4 := frozen0 (p := 4) hr1
          go_wp2_with fail
          refine bodyPost_ret (results_cell_row rfl _ _ (w.heap.size + 1) 25 _ (0, 0) _ rfl (set5_row hr1) Tryz.underlying25 rfl (by rw [hi0, Option.map_some, hz1]; rfl)) rfl ?_
          have hfar : ∀ b, b ≠ w.heap.size + 1 → _ := fun b hb => set5_far' wr (w.heap.size + 1) 0 b (.int .i64 k) (.int .i64 n) (.string m) (.slice va vl vc) (.slice ua ul uc) hb
          have hsze := set5_sz wr (w.heap.size + 1) 0 (.int .i64 k) (.int .i64 n) (.string m) (.slice va vl vc) (.slice ua ul uc)
          obtain ⟨QA, ql, qc, qe, qn, qlc, qnA, qts⟩ := ownT_tsP HOWN.out
          cases qe
          refine ⟨_, _, rfl, ?_, ownT_base (ownT_move HOWN.out (fun b _ hb => hfar b (by omega)) (by rw [hsze]; exact Nat.le_refl _)) (by omega), set5_below HB2.out _ 0 _ _ _ _ _ (by omega)⟩
          rw [TmP]
          refine ⟨lvP_move (w := W1) (P := fun b => W.heap.size ≤ b) (fun b hlt hp => ⟨by omega, (hfar b (by omega)).trans (hgr.out.block b hlt (by simp; omega))⟩) (by rw [hsze]; exact hszg) _ _ HVL.out, _, _, _, rfl, qn, qlc, by have := HN.out; omega, qnA, ?_⟩
          exact tsP_move (w := wr) (fun b _ hp => ⟨by omega, hfar b (by omega)⟩) (by rw [hsze]; exact Nat.le_refl _) _ _ _ qts
theorem copyTerm_is (t : Tm) (v : Value) (w : World) (hv : TmV w t v) (hm : tnodes t ≤ 100000) (hl : lvOk t) : Calls Tryz.prog 21 #[v] w (TmRet w t) :=
  (copyTerm_up (tnodes t) t v w (Nat.le_refl _) hm hl hv).mono fun _ _ ⟨l, s, he, h1, _, h2⟩ => ⟨l, s, he, h1, h2⟩
end Trm
end Go.Proofs.YtbkdecgfiiajnaaGreatDoor
/-
  Plain facts that TermMakes comes down to: what is made of right parts is right, and has their nodes; the levels in what is right are small.
  Conditions: none.
-/
namespace Go.Proofs.YtbkdecgfiiajnaaGreatDoor
open Go.RowKit
open Lvl
namespace Trm
mutual
theorem okC_of {RN : ByteArray → Bool} {n : Int} : ∀ (t : Tm) (k d : Int), okT RN (rightB n) t k = true → okC cAll t d
  | .mk kd m nm ls ts, k, d, h => by
    rw [okT, Bool.and_eq_true] at h
    rw [okC]
    have h1 := h.1
    unfold shape at h1
    rw [Bool.and_eq_true] at h1
    refine ⟨⟨trivial, fun l hl => ?_⟩, okCL_of kd ts.length ts 0 0 k d h.2⟩
    have := List.all_eq_true.1 h1.1 l hl
    unfold rightB at this
    simp only [Bool.and_eq_true, decide_eq_true_eq] at this
    omega
theorem okCL_of {RN : ByteArray → Bool} {n : Int} (kd : Int) (len : Nat) : ∀ (ts : List Tm) (i j : Nat) (k d : Int), okTL RN (rightB n) kd ts i k = true → okCL cAll kd len ts j d
  | [], _, _, _, _, _ => by rw [okCL]; trivial
  | a :: ts, i, j, k, d, h => by
    rw [okTL, Bool.and_eq_true] at h
    rw [okCL]
    exact ⟨okC_of a _ _ h.1, okCL_of kd len ts (i + 1) (j + 1) k d h.2⟩
end
theorem right_lvOk {RN : ByteArray → Bool} {nn kk : Int} {t : Tm} (h : rightT RN nn t kk = true) : lvOk t := okC_of t _ 0 (rightT_ok h).2.2
theorem nmOk_apps : ∀ (ts : List Tm) (f : Tm), nmOk f → nmOkL ts → nmOk (apps f ts)
  | [], f, hf, _ => by rw [apps]; exact hf
  | a :: ts, f, hf, h => by
    rw [nmOkL] at h
    rw [apps]
    refine nmOk_apps ts _ ?_ h.2
    rw [nmOk, nmOkL, nmOkL, nmOkL]
    exact ⟨by rw [show (⟨#[]⟩ : ByteArray).size = 0 from rfl]; omega, hf, h.1, trivial⟩
theorem nmOk_over (kd : Int) (f : Tm) : ∀ (ts : List Tm), nmOk f → nmOkL ts → nmOk (over kd f ts)
  | [], hf, _ => by rw [over]; exact hf
  | a :: ts, hf, h => by
    rw [nmOkL] at h
    rw [over, nmOk, nmOkL, nmOkL, nmOkL]
    exact ⟨by rw [show (⟨#[]⟩ : ByteArray).size = 0 from rfl]; omega, h.1, nmOk_over kd f ts hf h.2, trivial⟩
/-- What the law sums up of the parts. -/
def sumM : List Tm → Nat
  | [] => 0
  | a :: ts => (min (tnodes a) 2001 + 1) + sumM ts
theorem sumM_append : ∀ (l r : List Tm), sumM (l ++ r) = sumM l + sumM r
  | [], r => by rw [List.nil_append, sumM]; omega
  | a :: l, r => by rw [List.cons_append, sumM, sumM, sumM_append l r]; omega
theorem sumM_take {ts : List Tm} {j : Nat} (h : j < ts.length) : sumM (ts.take (j + 1)) = sumM (ts.take j) + (min (tnodes ts[j]) 2001 + 1) := by
  rw [List.take_add_one, List.getElem?_eq_getElem h, sumM_append]
  simp [sumM]
theorem sumM_bd : ∀ ts : List Tm, sumM ts ≤ 2002 * ts.length
  | [] => by rw [sumM]; omega
  | a :: ts => by
    rw [sumM, List.length_cons]
    have := sumM_bd ts
    omega
theorem sumM_is : ∀ ts : List Tm, sumM ts ≤ 2000 → sumM ts = tnodesL ts + ts.length
  | [], _ => by rw [sumM, tnodesL]; rfl
  | a :: ts, h => by
    rw [sumM] at h ⊢
    have := sumM_is ts (by omega)
    rw [tnodesL, List.length_cons]
    omega
def allR (RN : ByteArray → Bool) (kk : Int) (ts : List Tm) : Bool := ts.all fun a => rightT RN 4 a kk
theorem allR_take {RN : ByteArray → Bool} {kk : Int} {ts : List Tm} {j : Nat} (h : j < ts.length) : allR RN kk (ts.take (j + 1)) = (allR RN kk (ts.take j) && rightT RN 4 ts[j] kk) := by
  unfold allR
  rw [List.take_add_one, List.getElem?_eq_getElem h, List.all_append]
  simp
/-- All that TermMakes says, of right parts that are not too many. -/
structure Made (RN : ByteArray → Bool) (f : Tm) (ts : List Tm) (kk : Int) (M : Nat) : Prop where
  le : M ≤ 2000
  na : tnodes (apps f ts) = M
  nl : tnodes (over 5 f ts) = M
  np : tnodes (over 6 f ts) = M
  ra : rightT RN 4 (apps f ts) kk = true
  rl : rightT RN 4 (over 5 f ts) kk = true
  rp : rightT RN 4 (over 6 f ts) kk = true
  nf : tnodes f ≤ 2000
  lf : lvOk f
  each : ∀ a ∈ ts, tnodes a ≤ 100000 ∧ lvOk a
theorem made_of {RN : ByteArray → Bool} {f : Tm} {ts : List Tm} {kk : Int} {M : Nat} (hf : rightT RN 4 f kk = true) (hts : allR RN kk ts = true) (hM : min (tnodes f) 2001 + sumM ts = M) (hle : M ≤ 2000) (hk : kk ≤ 100) : Made RN f ts kk M := by
  have hs := sumM_is ts (by omega)
  have hall : ∀ a ∈ ts, rightT RN 4 a kk = true := fun a ha => List.all_eq_true.1 hts a ha
  obtain ⟨h0, h1, h2⟩ := rightT_ok hf
  have e : min kk 1125899906842624 = kk := by omega
  rw [e] at h2
  have hall2 : ∀ a ∈ ts, okT RN (rightB 4) a kk = true := fun a ha => by
    have := (rightT_ok (hall a ha)).2.2
    rwa [e] at this
  have n1 := apps_nodes ts f
  have n2 := over_nodes 5 f ts
  have n3 := over_nodes 6 f ts
  exact ⟨hle, by omega, by omega, by omega, rightT_of h0 (by omega) (by rw [e]; exact apps_ok RN (rightB 4) ts f h2 hall2), rightT_of h0 (by omega) (by rw [e]; exact over_ok RN (rightB 4) (.inl rfl) f ts kk h0 h2 hall2),
    rightT_of h0 (by omega) (by rw [e]; exact over_ok RN (rightB 4) (.inr rfl) f ts kk h0 h2 hall2), h1, right_lvOk hf, fun a ha => ⟨by have := (rightT_ok (hall a ha)).2.1; omega, right_lvOk (hall a ha)⟩⟩
end Trm
end Go.Proofs.YtbkdecgfiiajnaaGreatDoor
