import Derived.Test.YtbkdecgfiiajnaaGreatDoorJ31
import Derived.Test.YtbkdecgfiiajnaaGreatDoorJ29
import Derived.Test.YtbkdecgfiiajnaaGreatDoorJ21
import Derived.Test.YtbkdecgfiiajnaaGreatDoorJ22
import Derived.Test.YtbkdecgfiiajnaaGreatDoorJ16
import Derived.Test.YtbkdecgfiiajnaaGreatDoorJ10
/-
  The contract of the program's function Arrow: the functions from types to a type.
  Conditions: the terms lie in memory as told by 'TmV' and 'TsP'; they have at most 100000 nodes each; name.Right's contract.
-/
namespace Go.Proofs.YtbkdecgfiiajnaaGreatDoor
open Go.RowKit
open Lvl
namespace Trm
/-- Each one raised by its place. -/
def raisedL : Nat → List Tm → List Tm
  | _, [] => []
  | i, a :: ts => remT (fR i) a 0 :: raisedL (i + 1) ts
theorem raisedL_len : ∀ (i : Nat) (ts : List Tm), (raisedL i ts).length = ts.length
  | _, [] => rfl
  | i, a :: ts => by rw [raisedL, List.length_cons, List.length_cons, raisedL_len (i + 1) ts]
theorem raisedL_get : ∀ (i : Nat) (ts : List Tm) (j : Nat) (h : j < ts.length) (h' : j < (raisedL i ts).length), (raisedL i ts)[j] = remT (fR (i + j : Nat)) ts[j] 0
  | i, a :: ts, 0, _, _ => by simp [raisedL]
  | i, a :: ts, j + 1, h, h' => by
    have := raisedL_get (i + 1) ts j (by simpa using h) (by rw [raisedL_len]; simpa using h)
    simp only [raisedL, List.getElem_cons_succ]
    rw [this, show i + 1 + j = i + (j + 1) by omega]
/-- Is there such a term? -/
def arrB (RN : ByteArray → Bool) (t : Tm) (fs : List Tm) : Bool := decide (fs.length + tnodesL (fs ++ [t]) ≤ 2000) && (fs ++ [t]).all (fun t => rightT RN 4 t 1125899906842624)
def arrR (RN : ByteArray → Bool) (t : Tm) (fs : List Tm) : Tm := if arrB RN t fs = true then over 6 (remT (fR (fs.length : Nat)) t 0) (raisedL 0 fs) else .mk 0 0 ⟨#[]⟩ [] []
def ArrRet (w : World) (RN : ByteArray → Bool) (t : Tm) (fs : List Tm) (e : Ending) (w' : World) : Prop :=
  ∃ l s, e = .returned (.tuple #[tv (arrR RN t fs) l s, .bool (arrB RN t fs)]) ∧ TmP w' (fun b => w.heap.size ≤ b) (arrR RN t fs) l s ∧ Below w.heap.size w w'
theorem tmP_none (w : World) (P : Nat → Prop) : TmP w P (.mk 0 0 ⟨#[]⟩ [] []) (.slice none 0 0) (.slice none 0 0) := by
  rw [TmP, LvP]
  exact ⟨⟨none, 0, 0, rfl, rfl, Nat.le_refl _, by omega, fun _ => rfl, by rw [LsP]; trivial⟩, none, 0, 0, rfl, rfl, Nat.le_refl _, by omega, fun _ => rfl, by rw [TsP]; trivial⟩
/-- From the j-th on the row's cells hold these terms. -/
def RestTo (g : Nat) (w : World) (arr : Array Value) (ts : List Tm) (j : Nat) : Prop :=
  ∀ i (h : i < ts.length), j ≤ i → ∃ l s, arr[i * 5]? = some (.int .i64 (tkOf ts[i])) ∧ arr[i * 5 + 1]? = some (.int .i64 (tnOf ts[i])) ∧ arr[i * 5 + 2]? = some (.string (tmOf ts[i])) ∧ arr[i * 5 + 3]? = some l ∧ arr[i * 5 + 4]? = some s ∧ TmP w (fun b => b ≠ g) ts[i] l s
theorem restTo_below {g j : Nat} {w w' : World} {arr : Array Value} {ts : List Tm} (hb : Below w.heap.size w w') (h : RestTo g w arr ts j) : RestTo g w' arr ts j := fun i hi hj => by
  obtain ⟨l, s, c0, c1, c2, c3, c4, ht⟩ := h i hi hj
  exact ⟨l, s, c0, c1, c2, c3, c4, tmP_below hb ht⟩
theorem restTo_step {b j : Nat} {wr w8 : World} {arr : Array Value} {ts : List Tm} {x0 x1 x2 x3 x4 : Value} (h : RestTo b wr arr ts j) (hb8 : Below wr.heap.size wr w8) :
    RestTo b (((((w8.setCell ⟨b, j * 5, none⟩ x0).setCell ⟨b, j * 5 + 1, none⟩ x1).setCell ⟨b, j * 5 + 2, none⟩ x2).setCell ⟨b, j * 5 + 3, none⟩ x3).setCell ⟨b, j * 5 + 4, none⟩ x4) (set5 arr (j * 5) x0 x1 x2 x3 x4) ts (j + 1) := fun i hi hj => by
  obtain ⟨l, s, c0, c1, c2, c3, c4, ht⟩ := h i hi (by omega)
  refine ⟨l, s, by rw [set5_far (by omega)]; exact c0, by rw [set5_far (by omega)]; exact c1, by rw [set5_far (by omega)]; exact c2, by rw [set5_far (by omega)]; exact c3, by rw [set5_far (by omega)]; exact c4, ?_⟩
  exact tmP_move (fun q hq hp => ⟨hp, (set5_far' w8 b (j * 5) q _ _ _ _ _ hp).trans (hb8.block q hq)⟩) (by rw [set5_sz]; exact hb8.size) _ _ _ ht
/-- A row of one's own as cells that hold terms. -/
theorem restTo_of {w : World} {lim g : Nat} {cur : Array Value} {ts : List Tm} {ss : List (Value × Value)} (hl : ts.length = ss.length) (ht : cur.toList.take (ts.length * 5) = cells5 ts ss) (hk : ∀ i (h1 : i < ts.length) (h2 : i < ss.length), TmP w (fun b => 0 ≤ b ∧ b < lim) ts[i] ss[i].1 ss[i].2) (hg : lim ≤ g) : RestTo g w cur ts 0 := fun i hi _ => by
  obtain ⟨c0, c1, c2, c3, c4⟩ := cells5_get ts ss i hi (by omega)
  have hcur : ∀ p, p < ts.length * 5 → cur[p]? = (cells5 ts ss)[p]? := fun p hp => by
    rw [← ht, List.getElem?_take, if_pos hp, Array.getElem?_toList]
  exact ⟨ss[i].1, ss[i].2, (hcur _ (by omega)).trans c0, (hcur _ (by omega)).trans c1, (hcur _ (by omega)).trans c2, (hcur _ (by omega)).trans c3, (hcur _ (by omega)).trans c4, tmP_weak (fun b hb => by omega) (hk i hi (by omega))⟩

theorem raisedL_snoc : ∀ (i : Nat) (ts : List Tm) (a : Tm), raisedL i (ts ++ [a]) = raisedL i ts ++ [remT (fR (i + ts.length : Nat)) a 0]
  | i, [], a => by simp [raisedL]
  | i, b :: ts, a => by
    rw [List.cons_append, raisedL, raisedL_snoc (i + 1) ts a, raisedL, List.length_cons, show i + 1 + ts.length = i + (ts.length + 1) by omega]
    rfl
theorem doneTo_last {S B b : Nat} {w : World} {arr : Array Value} {us : List Tm} {x : Tm} (hd : DoneTo S w arr (us ++ [x]) (us.length + 1)) (hr : w.heap[b]? = some (.cells arr 25 (0, 0))) (hB : B + 2 ≤ b) (hS : B + 2 ≤ S) :
    TsP w (fun q => B + 2 ≤ q) (some ⟨b, 0, none⟩) 0 us ∧ ∃ l s, arr[us.length * 5]? = some (.int .i64 (tkOf x)) ∧ arr[us.length * 5 + 1]? = some (.int .i64 (tnOf x)) ∧ arr[us.length * 5 + 2]? = some (.string (tmOf x)) ∧ arr[us.length * 5 + 3]? = some l ∧ arr[us.length * 5 + 4]? = some s ∧ TmP w (fun q => B + 2 ≤ q) x l s := by
  have hget : ∀ i (h : i < us.length) (h2 : i < (us ++ [x]).length), (us ++ [x])[i] = us[i] := fun i h h2 => List.getElem_append_left h
  refine ⟨tsP_of us 0 fun i hi => ?_, ?_⟩
  · obtain ⟨l, s, c0, c1, c2, c3, c4, ht⟩ := hd i (by simp; omega) (by omega)
    rw [hget i hi] at c0 c1 c2 ht
    refine ⟨b, 0, l, s, rfl, (Array.getElem?_eq_some_iff.1 hr).1, hB, ?_, ?_, ?_, ?_, ?_, tmP_weak (fun q hq => Nat.le_trans hS hq) ht⟩
    · rw [Nat.zero_add, Nat.zero_add, cell_of_row w b _ arr _ (0, 0) hr]; exact c0
    · rw [Nat.zero_add, Nat.zero_add, cell_of_row w b _ arr _ (0, 0) hr]; exact c1
    · rw [Nat.zero_add, Nat.zero_add, cell_of_row w b _ arr _ (0, 0) hr]; exact c2
    · rw [Nat.zero_add, Nat.zero_add, cell_of_row w b _ arr _ (0, 0) hr]; exact c3
    · rw [Nat.zero_add, Nat.zero_add, cell_of_row w b _ arr _ (0, 0) hr]; exact c4
  · obtain ⟨l, s, c0, c1, c2, c3, c4, ht⟩ := hd us.length (by simp) (by omega)
    have e : (us ++ [x])[us.length]'(by simp) = x := by simp
    rw [e] at c0 c1 c2 ht
    exact ⟨l, s, c0, c1, c2, c3, c4, tmP_weak (fun q hq => Nat.le_trans hS hq) ht⟩

set_option maxRecDepth 100000 in
set_option maxHeartbeats 4000000 in
theorem arrow_is (RN : ByteArray → Bool) (t : Tm) (v : Value) (fs : List Tm) (A : Option Addr) (len cap : Nat) (w : World) (hv : TmV w t v) (hm : tnodes t ≤ 100000) (hlen : fs.length = len) (hlc : len ≤ cap) (h1000 : len ≤ 1000) (hnA : A = none → cap = 0) (hfs : TsP w (fun _ => True) A 0 fs)
    (hmf : ∀ a, a ∈ fs ++ [t] → tnodes a ≤ 100000) (hnm : ∀ a, a ∈ fs ++ [t] → ∀ q, q ∈ pre a 0 0 → (tmOf q.1).size ≤ 140737488355328) (CN : NameC w RN) :
    Calls Tryz.prog 10 #[v, .slice A len cap] w (ArrRet w RN t fs) := by
  obtain ⟨i0, hi0, hz0, hz1, hz2⟩ := info_parts infoTm
  have HFS := Lib.hid hlen
  have HNA := Lib.hid hnA
  have HTF := Lib.hid hfs
  have HCN := Lib.hid CN
  obtain ⟨al, hal⟩ : ∃ al, fs ++ [t] = al := ⟨_, rfl⟩
  rw [hal] at hmf hnm
  have HAE := Lib.hid hal
  have HMF := Lib.hid hmf
  have HNM := Lib.hid hnm
  clear hlen hnA hfs CN hal hmf hnm
  obtain ⟨l, s, rfl, ht⟩ := hv
  obtain ⟨⟨la, ll, lc, rfl⟩, sa, sl, sc, rfl⟩ := tmP_slices ht
  have HTT := Lib.hid ht
  obtain ⟨k, hk⟩ : ∃ k, tkOf t = k := ⟨_, rfl⟩
  obtain ⟨n, hn⟩ : ∃ n, tnOf t = n := ⟨_, rfl⟩
  obtain ⟨m, hmm⟩ : ∃ m, tmOf t = m := ⟨_, rfl⟩
  dsimp only [tv]
  rw [hk, hn, hmm]
  have HK := Lib.hid hk
  have HNN := Lib.hid hn
  have HMM := Lib.hid hmm
  have HM := Lib.hid hm
  clear hk hn hmm ht hm
  go_enter Tryz.func10, Tryz.ntmps10
  go_wp2_with fail
  have z1 : (w.alloc (.cells #[.int .i64 k, .int .i64 n, .string m, .slice la ll lc, .slice sa sl sc] 25)).heap.size = w.heap.size + 1 := by simp
  have z2 : ((w.alloc (.cells #[.int .i64 k, .int .i64 n, .string m, .slice la ll lc, .slice sa sl sc] 25)).alloc (.cells #[.int .i64 0, .int .i64 0, .string ⟨#[]⟩, .slice none 0 0, .slice none 0 0] 25)).heap.size = w.heap.size + 1 + 1 := by simp
  have z3 : (((w.alloc (.cells #[.int .i64 k, .int .i64 n, .string m, .slice la ll lc, .slice sa sl sc] 25)).alloc (.cells #[.int .i64 0, .int .i64 0, .string ⟨#[]⟩, .slice none 0 0, .slice none 0 0] 25)).alloc (.cells #[.int .i64 k, .int .i64 n, .string m, .slice la ll lc, .slice sa sl sc] 25)).heap.size = w.heap.size + 1 + 1 + 1 := by simp
  have z4 : ((((w.alloc (.cells #[.int .i64 k, .int .i64 n, .string m, .slice la ll lc, .slice sa sl sc] 25)).alloc (.cells #[.int .i64 0, .int .i64 0, .string ⟨#[]⟩, .slice none 0 0, .slice none 0 0] 25)).alloc (.cells #[.int .i64 k, .int .i64 n, .string m, .slice la ll lc, .slice sa sl sc] 25)).alloc (.cells #[.slice A len cap, .slice (some ⟨w.heap.size + 1 + 1, 0, none⟩) 1 1] 23)).heap.size = w.heap.size + 1 + 1 + 1 + 1 := by simp
  have r0 : (w.alloc (.cells #[.int .i64 k, .int .i64 n, .string m, .slice la ll lc, .slice sa sl sc] 25)).heap[w.heap.size]? = some (Obj.cells #[.int .i64 k, .int .i64 n, .string m, .slice la ll lc, .slice sa sl sc] 25 (0, 0)) := by
    have := heap_alloc_new w (.cells #[.int .i64 k, .int .i64 n, .string m, .slice la ll lc, .slice sa sl sc] 25)
    exact this
  have r1 : ((w.alloc (.cells #[.int .i64 k, .int .i64 n, .string m, .slice la ll lc, .slice sa sl sc] 25)).alloc (.cells #[.int .i64 0, .int .i64 0, .string ⟨#[]⟩, .slice none 0 0, .slice none 0 0] 25)).heap[w.heap.size + 1]? = some (Obj.cells #[.int .i64 0, .int .i64 0, .string ⟨#[]⟩, .slice none 0 0, .slice none 0 0] 25 (0, 0)) := by
    have := heap_alloc_new (w.alloc (.cells #[.int .i64 k, .int .i64 n, .string m, .slice la ll lc, .slice sa sl sc] 25)) (.cells #[.int .i64 0, .int .i64 0, .string ⟨#[]⟩, .slice none 0 0, .slice none 0 0] 25)
    rwa [z1] at this
  have r2 : (((w.alloc (.cells #[.int .i64 k, .int .i64 n, .string m, .slice la ll lc, .slice sa sl sc] 25)).alloc (.cells #[.int .i64 0, .int .i64 0, .string ⟨#[]⟩, .slice none 0 0, .slice none 0 0] 25)).alloc (.cells #[.int .i64 k, .int .i64 n, .string m, .slice la ll lc, .slice sa sl sc] 25)).heap[w.heap.size + 1 + 1]? = some (Obj.cells #[.int .i64 k, .int .i64 n, .string m, .slice la ll lc, .slice sa sl sc] 25 (0, 0)) := by
    have := heap_alloc_new ((w.alloc (.cells #[.int .i64 k, .int .i64 n, .string m, .slice la ll lc, .slice sa sl sc] 25)).alloc (.cells #[.int .i64 0, .int .i64 0, .string ⟨#[]⟩, .slice none 0 0, .slice none 0 0] 25)) (.cells #[.int .i64 k, .int .i64 n, .string m, .slice la ll lc, .slice sa sl sc] 25)
    rwa [z2] at this
  have r3 : ((((w.alloc (.cells #[.int .i64 k, .int .i64 n, .string m, .slice la ll lc, .slice sa sl sc] 25)).alloc (.cells #[.int .i64 0, .int .i64 0, .string ⟨#[]⟩, .slice none 0 0, .slice none 0 0] 25)).alloc (.cells #[.int .i64 k, .int .i64 n, .string m, .slice la ll lc, .slice sa sl sc] 25)).alloc (.cells #[.slice A len cap, .slice (some ⟨w.heap.size + 1 + 1, 0, none⟩) 1 1] 23)).heap[w.heap.size + 1 + 1 + 1]? = some (Obj.cells #[.slice A len cap, .slice (some ⟨w.heap.size + 1 + 1, 0, none⟩) 1 1] 23 (0, 0)) := by
    have := heap_alloc_new (((w.alloc (.cells #[.int .i64 k, .int .i64 n, .string m, .slice la ll lc, .slice sa sl sc] 25)).alloc (.cells #[.int .i64 0, .int .i64 0, .string ⟨#[]⟩, .slice none 0 0, .slice none 0 0] 25)).alloc (.cells #[.int .i64 k, .int .i64 n, .string m, .slice la ll lc, .slice sa sl sc] 25)) (.cells #[.slice A len cap, .slice (some ⟨w.heap.size + 1 + 1, 0, none⟩) 1 1] 23)
    rwa [z3] at this
  have HB := Lib.hid ((((below_lit w (.cells #[.int .i64 k, .int .i64 n, .string m, .slice la ll lc, .slice sa sl sc] 25)).trans ((below_lit (w.alloc (.cells #[.int .i64 k, .int .i64 n, .string m, .slice la ll lc, .slice sa sl sc] 25)) (.cells #[.int .i64 0, .int .i64 0, .string ⟨#[]⟩, .slice none 0 0, .slice none 0 0] 25)).mono (below_lit w (.cells #[.int .i64 k, .int .i64 n, .string m, .slice la ll lc, .slice sa sl sc] 25)).size)).trans ((below_lit ((w.alloc (.cells #[.int .i64 k, .int .i64 n, .string m, .slice la ll lc, .slice sa sl sc] 25)).alloc (.cells #[.int .i64 0, .int .i64 0, .string ⟨#[]⟩, .slice none 0 0, .slice none 0 0] 25)) (.cells #[.int .i64 k, .int .i64 n, .string m, .slice la ll lc, .slice sa sl sc] 25)).mono ((below_lit w (.cells #[.int .i64 k, .int .i64 n, .string m, .slice la ll lc, .slice sa sl sc] 25)).trans ((below_lit (w.alloc (.cells #[.int .i64 k, .int .i64 n, .string m, .slice la ll lc, .slice sa sl sc] 25)) (.cells #[.int .i64 0, .int .i64 0, .string ⟨#[]⟩, .slice none 0 0, .slice none 0 0] 25)).mono (below_lit w (.cells #[.int .i64 k, .int .i64 n, .string m, .slice la ll lc, .slice sa sl sc] 25)).size)).size)).trans ((below_lit (((w.alloc (.cells #[.int .i64 k, .int .i64 n, .string m, .slice la ll lc, .slice sa sl sc] 25)).alloc (.cells #[.int .i64 0, .int .i64 0, .string ⟨#[]⟩, .slice none 0 0, .slice none 0 0] 25)).alloc (.cells #[.int .i64 k, .int .i64 n, .string m, .slice la ll lc, .slice sa sl sc] 25)) (.cells #[.slice A len cap, .slice (some ⟨w.heap.size + 1 + 1, 0, none⟩) 1 1] 23)).mono (((below_lit w (.cells #[.int .i64 k, .int .i64 n, .string m, .slice la ll lc, .slice sa sl sc] 25)).trans ((below_lit (w.alloc (.cells #[.int .i64 k, .int .i64 n, .string m, .slice la ll lc, .slice sa sl sc] 25)) (.cells #[.int .i64 0, .int .i64 0, .string ⟨#[]⟩, .slice none 0 0, .slice none 0 0] 25)).mono (below_lit w (.cells #[.int .i64 k, .int .i64 n, .string m, .slice la ll lc, .slice sa sl sc] 25)).size)).trans ((below_lit ((w.alloc (.cells #[.int .i64 k, .int .i64 n, .string m, .slice la ll lc, .slice sa sl sc] 25)).alloc (.cells #[.int .i64 0, .int .i64 0, .string ⟨#[]⟩, .slice none 0 0, .slice none 0 0] 25)) (.cells #[.int .i64 k, .int .i64 n, .string m, .slice la ll lc, .slice sa sl sc] 25)).mono ((below_lit w (.cells #[.int .i64 k, .int .i64 n, .string m, .slice la ll lc, .slice sa sl sc] 25)).trans ((below_lit (w.alloc (.cells #[.int .i64 k, .int .i64 n, .string m, .slice la ll lc, .slice sa sl sc] 25)) (.cells #[.int .i64 0, .int .i64 0, .string ⟨#[]⟩, .slice none 0 0, .slice none 0 0] 25)).mono (below_lit w (.cells #[.int .i64 k, .int .i64 n, .string m, .slice la ll lc, .slice sa sl sc] 25)).size)).size)).size))
  have HR0 := Lib.hid ((heap_alloc_old (((w.alloc (.cells #[.int .i64 k, .int .i64 n, .string m, .slice la ll lc, .slice sa sl sc] 25)).alloc (.cells #[.int .i64 0, .int .i64 0, .string ⟨#[]⟩, .slice none 0 0, .slice none 0 0] 25)).alloc (.cells #[.int .i64 k, .int .i64 n, .string m, .slice la ll lc, .slice sa sl sc] 25)) (.cells #[.slice A len cap, .slice (some ⟨w.heap.size + 1 + 1, 0, none⟩) 1 1] 23) (by rw [z3]; omega)).trans ((heap_alloc_old ((w.alloc (.cells #[.int .i64 k, .int .i64 n, .string m, .slice la ll lc, .slice sa sl sc] 25)).alloc (.cells #[.int .i64 0, .int .i64 0, .string ⟨#[]⟩, .slice none 0 0, .slice none 0 0] 25)) (.cells #[.int .i64 k, .int .i64 n, .string m, .slice la ll lc, .slice sa sl sc] 25) (by rw [z2]; omega)).trans ((heap_alloc_old (w.alloc (.cells #[.int .i64 k, .int .i64 n, .string m, .slice la ll lc, .slice sa sl sc] 25)) (.cells #[.int .i64 0, .int .i64 0, .string ⟨#[]⟩, .slice none 0 0, .slice none 0 0] 25) (by rw [z1]; omega)).trans (r0))))
  have HR1 := Lib.hid ((heap_alloc_old (((w.alloc (.cells #[.int .i64 k, .int .i64 n, .string m, .slice la ll lc, .slice sa sl sc] 25)).alloc (.cells #[.int .i64 0, .int .i64 0, .string ⟨#[]⟩, .slice none 0 0, .slice none 0 0] 25)).alloc (.cells #[.int .i64 k, .int .i64 n, .string m, .slice la ll lc, .slice sa sl sc] 25)) (.cells #[.slice A len cap, .slice (some ⟨w.heap.size + 1 + 1, 0, none⟩) 1 1] 23) (by rw [z3]; omega)).trans ((heap_alloc_old ((w.alloc (.cells #[.int .i64 k, .int .i64 n, .string m, .slice la ll lc, .slice sa sl sc] 25)).alloc (.cells #[.int .i64 0, .int .i64 0, .string ⟨#[]⟩, .slice none 0 0, .slice none 0 0] 25)) (.cells #[.int .i64 k, .int .i64 n, .string m, .slice la ll lc, .slice sa sl sc] 25) (by rw [z2]; omega)).trans (r1)))
  have HR2 := Lib.hid ((heap_alloc_old (((w.alloc (.cells #[.int .i64 k, .int .i64 n, .string m, .slice la ll lc, .slice sa sl sc] 25)).alloc (.cells #[.int .i64 0, .int .i64 0, .string ⟨#[]⟩, .slice none 0 0, .slice none 0 0] 25)).alloc (.cells #[.int .i64 k, .int .i64 n, .string m, .slice la ll lc, .slice sa sl sc] 25)) (.cells #[.slice A len cap, .slice (some ⟨w.heap.size + 1 + 1, 0, none⟩) 1 1] 23) (by rw [z3]; omega)).trans (r2))
  have HR3 := Lib.hid (r3)
  clear r0 r1 r2 r3
  generalize ((((w.alloc (.cells #[.int .i64 k, .int .i64 n, .string m, .slice la ll lc, .slice sa sl sc] 25)).alloc (.cells #[.int .i64 0, .int .i64 0, .string ⟨#[]⟩, .slice none 0 0, .slice none 0 0] 25)).alloc (.cells #[.int .i64 k, .int .i64 n, .string m, .slice la ll lc, .slice sa sl sc] 25)).alloc (.cells #[.slice A len cap, .slice (some ⟨w.heap.size + 1 + 1, 0, none⟩) 1 1] 23)) = W4 at *
  have HZ := Lib.hid z4
  clear z1 z2 z3 z4
  have hsz4 := HZ.out
  have hrow2 := HR2.out
  rw [← HK.out, ← HNN.out, ← HMM.out] at hrow2
  have htp : TsP W4 (fun _ => True) (some ⟨w.heap.size + 1 + 1, 0, none⟩) 0 [t] := tsP_row (ts := [t]) (ss := [(.slice la ll lc, .slice sa sl sc)]) rfl hrow2 trivial (fun i h1 h2 => by
    obtain rfl : i = 0 := by simp at h1; omega
    exact tmP_below HB.out HTT.out)
  have hcc := concat_is fs [t] A len cap (some ⟨w.heap.size + 1 + 1, 0, none⟩) 1 1 (w.heap.size + 1 + 1 + 1) W4 HR3.out HFS.out rfl hlc (Nat.le_refl _) HNA.out (fun e => by cases e) (tsP_below HB.out HTF.out) htp (by omega) (by omega)
  rw [HAE.out] at hcc
  refine hcc.mono ?_
  clear hcc htp hrow2
  rintro e w5 ⟨V, rfl, hsp, hb5⟩
  have HAL : Hid (al.length = len + 1) := by
    have : al.length = len + 1 := by rw [← HAE.out, List.length_append, HFS.out]; rfl
    exact this
  obtain ⟨N, hN⟩ : ∃ N, N = len + 1 := ⟨_, rfl⟩
  rw [← hN] at HAL
  have hot := spO_own hsp (Nat.zero_le _) (Nat.le_refl _)
  obtain ⟨A5, len5, cap5, e5, _, _, _, hta⟩ := ownT_tsP hot
  obtain ⟨ss, hls, ho, hk⟩ := hsp
  rcases ho.2 with ⟨_, h0⟩ | ⟨g, capx, cur, rfl, hbg, hgr5, hnc5, hmx5, hcs5, htk5⟩
  · exfalso
    have := HAL.out
    omega
  obtain ⟨rfl, rfl, rfl⟩ : A5 = some ⟨g, 0, none⟩ ∧ len5 = al.length ∧ cap5 = capx := by
    cases e5
    exact ⟨rfl, rfl, rfl⟩
  rw [HAL.out]
  have HTA := Lib.hid hta
  have HRG := Lib.hid hgr5
  have hgl : g < w5.heap.size := (Array.getElem?_eq_some_iff.1 hgr5).1
  have HRE := Lib.hid (restTo_of hls htk5 hk hbg)
  have HB5 := Lib.hid (HB.out.trans (hb5.mono HB.out.size))
  have HRZ := Lib.hid ((hb5.block (w.heap.size + 1) (by omega)).trans HR1.out)
  have hs5 := hb5.size
  have hnc : N ≤ cap5 := by have := HAL.out; omega
  clear hot ho hk hls hta hgr5 htk5 hb5 hnc5 HR0 HR1 HR2 HR3 HB
  go_wp2_with fail
  go_loopw [7, 9, 21] (fun sz _ i wr => ∃ j s : Nat, j ≤ N ∧ i = .int .i64 j ∧ sz = .int .i64 s ∧ Hid (len + tnodesL (al.take j) = s) ∧ s ≤ 2000 ∧ Hid ((al.take j).all (fun t => rightT RN 4 t 1125899906842624) = true) ∧ Hid (Below w5.heap.size w5 wr)) (fun _ _ i _ => N - (intOf i).toNat)
  case atStart => exact ⟨0, len, Nat.zero_le _, rfl, rfl, Nat.add_zero _, by omega, rfl, Below.refl _ _⟩
  case round =>
    obtain ⟨j, s, hj, rfl, rfl, hsum, hs2, hall, hb⟩ := hrel
    have HBZr := Lib.hid (HB5.out.trans (hb.out.mono HB5.out.size))
    by_cases hlt : j < N
    · have hx1 : j < al.length := by rw [HAL.out]; exact hlt
      have hln : decide ((j : Int) < (N : Int)) = true := by simp; omega
      obtain ⟨bk, o, l1, s1, eA, hbs, _, hc0, hc1, hc2, hc3, hc4, htm⟩ := tsP_get HTA.out j hx1
      cases eA
      obtain ⟨⟨xa, xl, xc, rfl⟩, ya, yl, yc, rfl⟩ := tmP_slices htm
      simp only [Nat.zero_add] at hc0 hc1 hc2 hc3 hc4
      have d0 := (hb.out.cell (p := ⟨g, _, none⟩) hbs).trans hc0
      have d1 := (hb.out.cell (p := ⟨g, _, none⟩) hbs).trans hc1
      have d2 := (hb.out.cell (p := ⟨g, _, none⟩) hbs).trans hc2
      have d3 := (hb.out.cell (p := ⟨g, _, none⟩) hbs).trans hc3
      have d4 := (hb.out.cell (p := ⟨g, _, none⟩) hbs).trans hc4
      obtain ⟨ka, hka⟩ : ∃ q, tkOf al[j] = q := ⟨_, rfl⟩
      obtain ⟨na, hna⟩ : ∃ q, tnOf al[j] = q := ⟨_, rfl⟩
      obtain ⟨ma, hma⟩ : ∃ q, tmOf al[j] = q := ⟨_, rfl⟩
      have HA := Lib.hid (And.intro hka (And.intro hna hma))
      rw [hka] at d0
      rw [hna] at d1
      rw [hma] at d2
      have hmem := List.getElem_mem hx1
      have hTj := HMF.out _ hmem
      have HTM := Lib.hid htm
      clear hc0 hc1 hc2 hc3 hc4 htm hka hna hma
      obtain ⟨R, hR⟩ : ∃ R, min (tnodes al[j]) 2001 = R := ⟨_, rfl⟩
      have HR := Lib.hid hR
      have hTK := Lib.hid (tnodesL_take hx1)
      have HTK := Lib.hid (show al.take (j + 1) = al.take j ++ [al[j]] by rw [List.take_add_one, List.getElem?_eq_getElem hx1]; rfl)
      have hRle : R ≤ 2001 := by omega
      have hw1 : IntKind.i64.wrap ((s : Int) + (R : Int)) = (s : Int) + (R : Int) := IntWalk.i64_in _ ⟨by omega, by omega⟩
      have q1 : (0 : Int) ≤ (j : Int) := by omega
      have q2 : (j : Int) < (N : Int) := by omega
      obtain ⟨r, hr⟩ : ∃ r, rightT RN 4 al[j] 1125899906842624 = r := ⟨_, rfl⟩
      have HRR := Lib.hid hr
      have hwb := HBZr.out
      have HCALL := Lib.hid (fun (w' : World) (hw : Below w5.heap.size w5 w') => tnodes_is al[j] (tv al[j] (.slice xa xl xc) (.slice ya yl yc)) w' ⟨_, _, rfl, tmP_weak (fun _ _ => trivial) (tmP_below hw HTM.out)⟩ hTj R HR.out)
      have HCALL2 := Lib.hid (fun (w' : World) (hw : Below w5.heap.size w5 w') => isRight_is RN al[j] (tv al[j] (.slice xa xl xc) (.slice ya yl yc)) w' ⟨_, _, rfl, tmP_weak (fun _ _ => trivial) (tmP_below hw HTM.out)⟩ hTj (HNM.out _ hmem) (HCN.out.below (HB5.out.trans (hw.mono HB5.out.size))) r HRR.out)
      dsimp only [tv] at HCALL HCALL2
      rw [HA.out.1, HA.out.2.1, HA.out.2.2] at HCALL HCALL2
      clear hR hr hTj hwb
      go_wp2_with fail
      have hbx := below_lit wr (.cells #[.int .i64 ka, .int .i64 na, .string ma, .slice xa xl xc, .slice ya yl yc] 25)
      have hr7 := heap_alloc_new wr (.cells #[.int .i64 ka, .int .i64 na, .string ma, .slice xa xl xc, .slice ya yl yc] 25)
      have hs7 : (wr.alloc (.cells #[.int .i64 ka, .int .i64 na, .string ma, .slice xa xl xc, .slice ya yl yc] 25)).heap.size = wr.heap.size + 1 := by simp
      generalize wr.alloc (.cells #[.int .i64 ka, .int .i64 na, .string ma, .slice xa xl xc, .slice ya yl yc] 25) = W7 at *
      clear d0 d1 d2 d3 d4
      have HB7 := Lib.hid (hb.out.trans (hbx.mono hb.out.size))
      have HR7 := Lib.hid hr7
      refine (HCALL.out W7 HB7.out).mono ?_
      rintro e w8 ⟨rfl, hb8⟩
      have HB8 := Lib.hid (HB7.out.trans (hb8.mono HB7.out.size))
      have hr8 := (hb8.block wr.heap.size (by omega)).trans HR7.out
      have HR8 := Lib.hid hr8
      obtain ⟨d0, d1, d2, d3, d4⟩ := five_cells hr8
      have HBZ := Lib.hid (HB5.out.trans (HB8.out.mono HB5.out.size))
      have h58 := HB8.out.size
      have hrz := (HB8.out.block (w.heap.size + 1) (by omega)).trans HRZ.out
      obtain ⟨e0, e1, e2, e3, e4⟩ := five_cells hrz
      have g0 := frozen0 (p := 0) hrz
      have g1 := frozen0 (p := 1) hrz
      have g2 := frozen0 (p := 2) hrz
      have g3 := frozen0 (p := 3) hrz
      have g4 := frozen0 (p := 4) hrz
      clear hb8 hr8 hr7 hbx HCALL
      by_cases hov : 2000 < s + R
      · have hgt : decide ((2000 : Int) < (s : Int) + (R : Int)) = true := by simp; omega
        have HF : Hid (arrB RN t fs = false) := by
          have : arrB RN t fs = false := by
            have h1 := hsum.out
            have h2 := hTK.out
            have h3 := tnodesL_le al (j + 1)
            have h4 := HR.out
            rw [arrB, HFS.out, HAE.out, show decide (len + tnodesL al ≤ 2000) = false by simp; omega]
            rfl
          exact this
        go_wp2_with fail
        refine bodyPost_ret (results_row_tmp rfl _ _ (w.heap.size + 1) 25 _ (0, 0) _ rfl (set5_row hrz) Tryz.underlying25 rfl (by rw [hi0, Option.map_some, hz1]; rfl)) rfl ?_
        unfold ArrRet
        rw [arrR, HF.out]
        exact ⟨.slice none 0 0, .slice none 0 0, rfl, tmP_none _ _, set5_below HBZ.out _ 0 _ _ _ _ _ (by omega)⟩
      · have hgt : decide ((2000 : Int) < (s : Int) + (R : Int)) = false := by simp; omega
        go_wp2_with fail
        refine (HCALL2.out w8 HB8.out).mono ?_
        rintro e w9 ⟨rfl, hb9⟩
        have HB9 := Lib.hid (HB8.out.trans (hb9.mono HB8.out.size))
        have hrz9 := (hb9.block (w.heap.size + 1) (by omega)).trans hrz
        have HRZ9 := Lib.hid hrz9
        clear hrz hb9 d0 d1 d2 d3 d4 e0 e1 e2 e3 e4 g0 g1 g2 g3 g4 hrz9
        cases r with
        | false =>
          have HF : Hid (arrB RN t fs = false) := by
            have : arrB RN t fs = false := by
              rw [arrB, HAE.out, show al.all (fun t => rightT RN 4 t 1125899906842624) = false by
                rw [List.all_eq_false]
                exact ⟨_, hmem, by rw [HRR.out]; decide⟩, Bool.and_false]
            exact this
          have HBZ := Lib.hid (HB5.out.trans (HB9.out.mono HB5.out.size))
          have hrz := HRZ9.out
          obtain ⟨e0, e1, e2, e3, e4⟩ := five_cells hrz
          have g0 := frozen0 (p := 0) hrz
          have g1 := frozen0 (p := 1) hrz
          have g2 := frozen0 (p := 2) hrz
          have g3 := frozen0 (p := 3) hrz
          have g4 := frozen0 (p := 4) hrz
          go_wp2_with fail
          refine bodyPost_ret (results_row_tmp rfl _ _ (w.heap.size + 1) 25 _ (0, 0) _ rfl (set5_row hrz) Tryz.underlying25 rfl (by rw [hi0, Option.map_some, hz1]; rfl)) rfl ?_
          unfold ArrRet
          rw [arrR, HF.out]
          exact ⟨.slice none 0 0, .slice none 0 0, rfl, tmP_none _ _, set5_below HBZ.out _ 0 _ _ _ _ _ (by omega)⟩
        | true =>
          have hsum2 : Hid (len + tnodesL (al.take (j + 1)) = s + R) := by
            have : len + tnodesL (al.take (j + 1)) = s + R := by
              have h1 := hsum.out
              have h2 := hTK.out
              have h4 := HR.out
              omega
            exact this
          have hall2 : Hid ((al.take (j + 1)).all (fun t => rightT RN 4 t 1125899906842624) = true) := by
            have : (al.take (j + 1)).all (fun t => rightT RN 4 t 1125899906842624) = true := by
              rw [HTK.out, List.all_append, hall.out, List.all_cons, HRR.out]
              rfl
            exact this
          go_wp2_with fail
          go_roundw
          case rel => exact ⟨j + 1, s + R, by omega, by go_num, by go_num, hsum2.out, by omega, hall2.out, HB9.out⟩
          case measure => simp [intOf]; omega
    · obtain rfl : j = N := by omega
      have hln : decide ((j : Int) < (j : Int)) = false := by simp
      have hTK9 : al.take j = al := List.take_of_length_le (by rw [HAL.out]; exact Nat.le_refl _)
      have hall9 := hall.out
      have hsum9 := hsum.out
      rw [hTK9] at hall9 hsum9
      have HT : Hid (arrB RN t fs = true) := by
        have : arrB RN t fs = true := by
          rw [arrB, HFS.out, HAE.out, hall9, show decide (len + tnodesL al ≤ 2000) = true by simp; omega]
          rfl
        exact this
      have HALL := Lib.hid (List.all_eq_true.1 hall9)
      have hRG := (hb.out.block g (by omega)).trans HRG.out
      have HRZ2 := Lib.hid ((hb.out.block (w.heap.size + 1) (by omega)).trans HRZ.out)
      have HRE2 := Lib.hid (restTo_below hb.out HRE.out)
      have HRG2 := Lib.hid hRG
      have hs9 := hb.out.size
      clear hTK9 hall9 hsum9 hRG
      generalize wr = Wq at *
      go_wp2_with fail
      go_loopw [10, 11, 40] (fun _ _ i wr2 => ∃ (q : Nat) (arr : Array Value), q ≤ j ∧ i = .int .i64 q ∧ Hid (wr2.heap[g]? = some (Obj.cells arr 25 (0, 0))) ∧ arr.size = cap5 * 5 ∧ Hid (DoneTo (g + 1) wr2 arr (raisedL 0 al) q) ∧ Hid (RestTo g wr2 arr al q) ∧ Hid (Wq.grownBy wr2 (some g))) (fun _ _ i _ => j - (intOf i).toNat)
      case atStart => exact ⟨0, cur, Nat.zero_le _, rfl, HRG2.out, hcs5, doneTo_zero _ _ _ _, HRE2.out, grown_of _ (Below.refl _ _)⟩
      case round =>
        obtain ⟨i, arr, hi, rfl, harr, hasz, hdone, hrest, hgr⟩ := hrel
        have hsr := grown_size hgr.out
        by_cases hlt : i < j
        · have hx1 : i < al.length := by rw [HAL.out]; exact hlt
          have hu1 : i < (raisedL 0 al).length := by rw [raisedL_len]; exact hx1
          have hln : decide ((i : Int) < (j : Int)) = true := by simp; omega
          obtain ⟨l1, s1, c0, c1, c2, c3, c4, htm⟩ := hrest.out i hx1 (Nat.le_refl _)
          obtain ⟨⟨xa, xl, xc, rfl⟩, ya, yl, yc, rfl⟩ := tmP_slices htm
          have z0 := (cell_of_row wr g (i * 5) arr _ (0, 0) harr.out).trans c0
          have z1 := (cell_of_row wr g (i * 5 + 1) arr _ (0, 0) harr.out).trans c1
          have z2 := (cell_of_row wr g (i * 5 + 2) arr _ (0, 0) harr.out).trans c2
          have z3 := (cell_of_row wr g (i * 5 + 3) arr _ (0, 0) harr.out).trans c3
          have z4 := (cell_of_row wr g (i * 5 + 4) arr _ (0, 0) harr.out).trans c4
          have hmem := List.getElem_mem hx1
          have hTj := HMF.out _ hmem
          have hri := HALL.out _ hmem
          have hok : okC cR al[i] 0 := by
            rw [rightT] at hri
            simp only [Bool.and_eq_true, decide_eq_true_eq] at hri
            exact ok_cR RN 4 al[i] _ 0 hri.2 (Int.le_refl _) (by have := hri.1.2; omega)
          have hcall := fun (w' : World) (hw : Below wr.heap.size wr w') => raised_is al[i] (tv al[i] (.slice xa xl xc) (.slice ya yl yc)) i w' (by omega) ⟨_, _, rfl, tmP_weak (fun _ _ => trivial) (tmP_below hw htm)⟩ hTj hok
          have hur : remT (fR i) al[i] 0 = (raisedL 0 al)[i] := by rw [raisedL_get 0 al i hx1 hu1, Nat.zero_add]
          rw [hur] at hcall
          have HCALL := Lib.hid hcall
          dsimp only [tv] at HCALL
          obtain ⟨ka, hka⟩ : ∃ q, tkOf al[i] = q := ⟨_, rfl⟩
          obtain ⟨na, hna⟩ : ∃ q, tnOf al[i] = q := ⟨_, rfl⟩
          obtain ⟨ma, hma⟩ : ∃ q, tmOf al[i] = q := ⟨_, rfl⟩
          rw [hka] at z0 HCALL
          rw [hna] at z1 HCALL
          rw [hma] at z2 HCALL
          obtain ⟨ku, hku⟩ : ∃ q, tkOf (raisedL 0 al)[i] = q := ⟨_, rfl⟩
          obtain ⟨nu, hnu⟩ : ∃ q, tnOf (raisedL 0 al)[i] = q := ⟨_, rfl⟩
          obtain ⟨mu, hmu⟩ : ∃ q, tmOf (raisedL 0 al)[i] = q := ⟨_, rfl⟩
          have HU := Lib.hid (And.intro hku (And.intro hnu hmu))
          have q1 : (0 : Int) ≤ (i : Int) := by omega
          have q2 : (i : Int) < (j : Int) := by omega
          clear hcall hok hri hka hna hma hku hnu hmu c0 c1 c2 c3 c4 htm hur
          go_wp2_with fail
          have hbx := below_lit wr (.cells #[.int .i64 ka, .int .i64 na, .string ma, .slice xa xl xc, .slice ya yl yc] 25)
          have hs7 : (wr.alloc (.cells #[.int .i64 ka, .int .i64 na, .string ma, .slice xa xl xc, .slice ya yl yc] 25)).heap.size = wr.heap.size + 1 := by simp
          generalize wr.alloc (.cells #[.int .i64 ka, .int .i64 na, .string ma, .slice xa xl xc, .slice ya yl yc] 25) = W7 at *
          clear z0 z1 z2 z3 z4
          refine (HCALL.out W7 hbx).mono ?_
          rintro e w8 ⟨l9, s9, rfl, ht9, hb8⟩
          obtain ⟨⟨ua, ul, uc, rfl⟩, va9, vl9, vc9, rfl⟩ := tmP_slices ht9
          have HT9 := Lib.hid ht9
          have hwr8 := hbx.trans (hb8.mono hbx.size)
          dsimp only [tv]
          rw [HU.out.1, HU.out.2.1, HU.out.2.2]
          have hg2 : g < wr.heap.size := by omega
          have hA8 := (hwr8.block g hg2).trans harr.out
          have j5 : i * 5 + 4 < arr.size := by omega
          obtain ⟨p0, p0f⟩ := cell_of_arr hA8 (p := i * 5) (by omega)
          obtain ⟨p1, p1f⟩ := cell_of_arr hA8 (p := i * 5 + 1) (by omega)
          obtain ⟨p2, p2f⟩ := cell_of_arr hA8 (p := i * 5 + 2) (by omega)
          obtain ⟨p3, p3f⟩ := cell_of_arr hA8 (p := i * 5 + 3) (by omega)
          obtain ⟨p4, p4f⟩ := cell_of_arr hA8 (p := i * 5 + 4) (by omega)
          have HGR := Lib.hid (set5_grown (q := i * 5) (x0 := .int .i64 ku) (x1 := .int .i64 nu) (x2 := .string mu) (x3 := .slice ua ul uc) (x4 := .slice va9 vl9 vc9) (grown_below hgr.out hwr8))
          have HDN := Lib.hid (doneTo_step (b := g) hdone.out hu1 hwr8 (by omega) HU.out.1 HU.out.2.1 HU.out.2.2 j5 (tmP_weak (fun q (hq : W7.heap.size ≤ q) => by omega) HT9.out))
          have HRS := Lib.hid (restTo_step (b := g) (x0 := .int .i64 ku) (x1 := .int .i64 nu) (x2 := .string mu) (x3 := .slice ua ul uc) (x4 := .slice va9 vl9 vc9) hrest.out hwr8)
          have HAR := Lib.hid (set5_row' (q := i * 5) (x0 := .int .i64 ku) (x1 := .int .i64 nu) (x2 := .string mu) (x3 := .slice ua ul uc) (x4 := .slice va9 vl9 vc9) hA8)
          have HAZ := Lib.hid (set5_size arr (i * 5) (.int .i64 ku) (.int .i64 nu) (.string mu) (.slice ua ul uc) (.slice va9 vl9 vc9))
          clear ht9 hb8 hA8
          go_wp2_with fail
          generalize ((((w8.setCell ⟨g, i * 5, none⟩ (.int .i64 ku)).setCell ⟨g, i * 5 + 1, none⟩ (.int .i64 nu)).setCell ⟨g, i * 5 + 2, none⟩ (.string mu)).setCell ⟨g, i * 5 + 3, none⟩ (.slice ua ul uc)).setCell ⟨g, i * 5 + 4, none⟩ (.slice va9 vl9 vc9) = w9 at *
          go_roundw
          case rel => exact ⟨i + 1, _, by omega, by go_num, HAR.out, HAZ.out.trans hasz, HDN.out, HRS.out, HGR.out⟩
          case measure => simp [intOf]; omega
        · obtain rfl : i = j := by omega
          have hln : decide ((i : Int) < (i : Int)) = false := by simp
          have hus : raisedL 0 al = raisedL 0 fs ++ [remT (fR (len : Nat)) t 0] := by rw [← HAE.out, raisedL_snoc, HFS.out, Nat.zero_add]
          have hdn := hdone.out
          rw [hus] at hdn
          have hrl : (raisedL 0 fs).length = len := by rw [raisedL_len, HFS.out]
          have hi1 : i = (raisedL 0 fs).length + 1 := by rw [hrl]; exact hN
          rw [hi1] at hdn
          obtain ⟨hts9, l9, s9, b0, b1, b2, b3, b4, ht9⟩ := doneTo_last (B := w.heap.size) hdn harr.out (by omega) (by omega)
          rw [hrl] at b0 b1 b2 b3 b4
          obtain ⟨⟨ja, jl, jc, rfl⟩, ia, il, ic, rfl⟩ := tmP_slices ht9
          obtain ⟨k9, hk9⟩ : ∃ q, tkOf (remT (fR (len : Nat)) t 0) = q := ⟨_, rfl⟩
          obtain ⟨n9, hn9⟩ : ∃ q, tnOf (remT (fR (len : Nat)) t 0) = q := ⟨_, rfl⟩
          obtain ⟨m9, hm9⟩ : ∃ q, tmOf (remT (fR (len : Nat)) t 0) = q := ⟨_, rfl⟩
          rw [hk9] at b0
          rw [hn9] at b1
          rw [hm9] at b2
          have hbd := fun (w' : World) (hw : Below wr.heap.size wr w') => bound_is 6 (fun q => w.heap.size + 2 ≤ q) (remT (fR (len : Nat)) t 0) ja jl jc ia il ic (raisedL 0 fs) (some ⟨g, 0, none⟩) len cap5 w' (tmP_below hw ht9) hrl (by omega) (tsP_below hw hts9)
          dsimp only [tv] at hbd
          rw [hk9, hn9, hm9] at hbd
          have HBD := Lib.hid hbd
          have hgb1 : (w.heap.size + 1) ≠ g := by omega
          have hk : Hid (∀ W', wr.grownBy W' (some (w.heap.size + 1)) → W'.cell? ⟨g, len * 5, none⟩ = some (.int .i64 k9) ∧ W'.cell? ⟨g, len * 5 + 1, none⟩ = some (.int .i64 n9) ∧ W'.cell? ⟨g, len * 5 + 2, none⟩ = some (.string m9) ∧ W'.cell? ⟨g, len * 5 + 3, none⟩ = some (.slice ja jl jc) ∧ W'.cell? ⟨g, len * 5 + 4, none⟩ = some (.slice ia il ic)) := fun W' h => by
            have q := (h.block g (by omega) (by simp; omega)).trans harr.out
            exact ⟨(cell_of_row W' g (len * 5) arr _ (0, 0) q).trans b0, (cell_of_row W' g (len * 5 + 1) arr _ (0, 0) q).trans b1, (cell_of_row W' g (len * 5 + 2) arr _ (0, 0) q).trans b2, (cell_of_row W' g (len * 5 + 3) arr _ (0, 0) q).trans b3, (cell_of_row W' g (len * 5 + 4) arr _ (0, 0) q).trans b4⟩
          have hrzr := (hgr.out.block (w.heap.size + 1) (by omega) (by simp; omega)).trans HRZ2.out
          have HRZ3 := Lib.hid hrzr
          have HBW := Lib.hid ((HB5.out.trans (hb.out.mono HB5.out.size)).grown hgr.out (by omega) (fun k e => by cases e; omega))
          have q1 : (0 : Int) ≤ (len : Int) := by omega
          have q2 : (len : Int) < (i : Int) := by omega
          have q2b : (len : Int) < (len : Int) + 1 := by omega
          have q3 : (len : Int) ≤ (cap5 : Int) := by omega
          have q4 : len ≤ cap5 := by omega
          clear hus hdn hbd b0 b1 b2 b3 b4 ht9 hts9 hrl hi1 hk9 hn9 hm9 hrzr
          go_wp2_with fail
          refine wp_region_held_drew (S := fun W' => W'.cell? ⟨g, len * 5, none⟩ = some (.int .i64 k9) ∧ W'.cell? ⟨g, len * 5 + 1, none⟩ = some (.int .i64 n9) ∧ W'.cell? ⟨g, len * 5 + 2, none⟩ = some (.string m9) ∧ W'.cell? ⟨g, len * 5 + 3, none⟩ = some (.slice ja jl jc) ∧ W'.cell? ⟨g, len * 5 + 4, none⟩ = some (.slice ia il ic)) (by kernel_rfl) (hk.out _ (grown_of _ ((Below.refl _ _).drew))) (fun hHeld => ?_)
          refine take_in (i := 0) (v := ?_) rfl (by kernel_rfl) (by kernel_rfl) (by kernel_rfl) (fun _ _ _ h => h) (by rfl) ?_ hHeld ?_
          rotate_left
          · intro w hSw
            (try dsimp only at hSw)
            go_simp
            try with_reducible rfl
          try simp only [Act.put, List.setIfInBounds_toArray, List.set_cons_zero, List.set_cons_succ]
          refine take_in (i := 1) (v := ?_) rfl (by kernel_rfl) (by kernel_rfl) (by kernel_rfl) (fun _ _ _ h => h) (by rfl) ?_ hHeld ?_
          rotate_left
          · intro w hSw
            (try dsimp only at hSw)
            go_simp
            try with_reducible rfl
          try simp only [Act.put, List.setIfInBounds_toArray, List.set_cons_zero, List.set_cons_succ]
          refine take_in (i := 2) (v := ?_) rfl (by kernel_rfl) (by kernel_rfl) (by kernel_rfl) (fun _ _ _ h => h) (by rfl) ?_ hHeld ?_
          rotate_left
          · intro w hSw
            (try dsimp only at hSw)
            go_simp
            try with_reducible rfl
          try simp only [Act.put, List.setIfInBounds_toArray, List.set_cons_zero, List.set_cons_succ]
          refine take_in (i := 3) (v := ?_) rfl (by kernel_rfl) (by kernel_rfl) (by kernel_rfl) (fun _ _ _ h => h) (by rfl) ?_ hHeld ?_
          rotate_left
          · intro w hSw
            (try dsimp only at hSw)
            go_simp
            try with_reducible rfl
          try simp only [Act.put, List.setIfInBounds_toArray, List.set_cons_zero, List.set_cons_succ]
          refine take_in (i := 4) (v := ?_) rfl (by kernel_rfl) (by kernel_rfl) (by kernel_rfl) (fun _ _ _ h => h) (by rfl) ?_ hHeld ?_
          rotate_left
          · intro w hSw
            (try dsimp only at hSw)
            go_simp
            try with_reducible rfl
          try simp only [Act.put, List.setIfInBounds_toArray, List.set_cons_zero, List.set_cons_succ]
          refine take_in (i := 5) (v := ?_) rfl (by kernel_rfl) (by kernel_rfl) (by kernel_rfl) (fun _ _ _ h => h) (by rfl) ?_ hHeld ?_
          rotate_left
          · intro w hSw
            (try dsimp only at hSw)
            go_simp
            try with_reducible rfl
          try simp only [Act.put, List.setIfInBounds_toArray, List.set_cons_zero, List.set_cons_succ]
          refine take_in (i := 6) (v := ?_) rfl (by kernel_rfl) (by kernel_rfl) (by kernel_rfl) (fun _ _ _ h => h) (by rfl) ?_ hHeld ?_
          rotate_left
          · intro w hSw
            (try dsimp only at hSw)
            go_simp
            try with_reducible rfl
          try simp only [Act.put, List.setIfInBounds_toArray, List.set_cons_zero, List.set_cons_succ]
          refine take_in (i := 7) (v := ?_) rfl (by kernel_rfl) (by kernel_rfl) (by kernel_rfl) (fun _ _ _ h => h) (by rfl) ?_ hHeld ?_
          rotate_left
          · intro w hSw
            (try dsimp only at hSw)
            go_simp
            try with_reducible rfl
          try simp only [Act.put, List.setIfInBounds_toArray, List.set_cons_zero, List.set_cons_succ]
          refine take_in (i := 8) (v := ?_) rfl (by kernel_rfl) (by kernel_rfl) (by kernel_rfl) (fun _ _ _ h => h) (by rfl) ?_ hHeld ?_
          rotate_left
          · intro w hSw
            (try dsimp only at hSw)
            go_simp
            try with_reducible rfl
          try simp only [Act.put, List.setIfInBounds_toArray, List.set_cons_zero, List.set_cons_succ]
          refine call_in (i := 9) rfl (by kernel_rfl) (fun K hK => ?_)
          clear hHeld
          go_simp
          go_at_call 36
          refine (HBD.out _ ((Below.refl _ _).drew)).mono ?_
          rintro e w8 ⟨l8, s8, rfl, ht8, hb8⟩
          obtain ⟨⟨ua, ul, uc, rfl⟩, va9, vl9, vc9, rfl⟩ := tmP_slices ht8
          have HC8 := Lib.hid ((Below.refl wr.heap.size wr).drew.trans hb8)
          have HT8 := Lib.hid ht8
          obtain ⟨k8, hk8⟩ : ∃ q, tkOf (over 6 (remT (fR (len : Nat)) t 0) (raisedL 0 fs)) = q := ⟨_, rfl⟩
          obtain ⟨n8, hn8⟩ : ∃ q, tnOf (over 6 (remT (fR (len : Nat)) t 0) (raisedL 0 fs)) = q := ⟨_, rfl⟩
          obtain ⟨m8, hm8⟩ : ∃ q, tmOf (over 6 (remT (fR (len : Nat)) t 0) (raisedL 0 fs)) = q := ⟨_, rfl⟩
          dsimp only [tv]
          rw [hk8, hn8, hm8]
          have HO8 := Lib.hid (And.intro hk8 (And.intro hn8 hm8))
          have hrz := (HC8.out.block (w.heap.size + 1) (by omega)).trans HRZ3.out
          have HRZ4 := Lib.hid hrz
          obtain ⟨e0, e1, e2, e3, e4⟩ := five_cells hrz
          have g0 := frozen0 (p := 0) hrz
          have g1 := frozen0 (p := 1) hrz
          have g2 := frozen0 (p := 2) hrz
          have g3 := frozen0 (p := 3) hrz
          have g4 := frozen0 (p := 4) hrz
          clear ht8 hb8 hk8 hn8 hm8 hrz
          try (go_wp2_with fail)
          refine hK.out _ _ (hk.out _ (grown_of _ HC8.out)) (fun hHeld => ?_)
          clear hK K
          try simp only [Act.put, List.setIfInBounds_toArray, List.set_cons_zero, List.set_cons_succ]
          refine call_in (i := 10) rfl (by kernel_rfl) (fun K hK => ?_)
          clear hHeld
          go_simp
          have hgr9 := set5_grown (q := 0) (x0 := .int .i64 k8) (x1 := .int .i64 n8) (x2 := .string m8) (x3 := .slice ua ul uc) (x4 := .slice va9 vl9 vc9) (grown_of (some (w.heap.size + 1)) HC8.out)
          refine hK.out _ _ (hk.out _ hgr9) (fun hHeld => ?_)
          clear hK K
          try simp only [Act.put, List.setIfInBounds_toArray, List.set_cons_zero, List.set_cons_succ]
          refine take_in (i := 11) (v := ?_) rfl (by kernel_rfl) (by kernel_rfl) (by kernel_rfl) (fun _ _ _ h => h) (by rfl) ?_ hHeld ?_
          rotate_left
          · intro w hSw
            (try dsimp only at hSw)
            go_simp
            try with_reducible rfl
          try simp only [Act.put, List.setIfInBounds_toArray, List.set_cons_zero, List.set_cons_succ]
          refine wpAnyH_done (by kernel_rfl) ?_ _
          go_wp2_with fail
          refine bodyPost_ret (results_row_tmp rfl _ _ (w.heap.size + 1) 25 _ (0, 0) _ rfl (set5_row HRZ4.out) Tryz.underlying25 rfl (by rw [hi0, Option.map_some, hz1]; rfl)) rfl ?_
          have hs8 := set5_sz w8 (w.heap.size + 1) 0 (.int .i64 k8) (.int .i64 n8) (.string m8) (.slice ua ul uc) (.slice va9 vl9 vc9)
          have hsw := HBW.out.size
          unfold ArrRet
          rw [arrR, if_pos HT.out, HT.out, HFS.out]
          have hz8 : wr.heap.size ≤ w8.heap.size := HC8.out.size
          refine ⟨_, _, by dsimp only [tv]; rw [HO8.out.1, HO8.out.2.1, HO8.out.2.2]; rfl, ?_, set5_below (HBW.out.trans (HC8.out.mono HBW.out.size)) _ 0 _ _ _ _ _ (by omega)⟩
          exact tmP_move (w := w8) (fun b _ (hp : w.heap.size + 2 ≤ b ∨ wr.heap.size ≤ b) => ⟨by omega, set5_far' w8 (w.heap.size + 1) 0 b _ _ _ _ _ (by omega)⟩) (Nat.le_of_eq hs8.symm) _ _ _ HT8.out
end Trm
end Go.Proofs.YtbkdecgfiiajnaaGreatDoor
/-
  The contract of the statements' own Great, and Arrow's answer as the plain arrow.
  Conditions: the term lies in memory as told by 'TmV'; names of at most 2^47 bytes.
-/
namespace Go.Proofs.YtbkdecgfiiajnaaGreatDoor
open Go.RowKit
open Lvl
namespace Trm
theorem over_arrow (RN : ByteArray → Bool) (RL : Lv → Bool) (kt : Int) (to : Tm) (hto : okT RN RL to kt = true) : ∀ (fs : List Tm) (i : Nat), (∀ a ∈ fs, ∃ K, okT RN RL a K = true) → over 6 (remT (fR (i + fs.length : Nat)) to 0) (raisedL i fs) = arrow to fs i
  | [], i, _ => by
    rw [raisedL, over, arrow, List.length_nil, Nat.add_zero, remT_li RN RL _ to kt 0 hto]
  | a :: fs, i, h => by
    obtain ⟨K, hK⟩ := h a (by simp)
    have ih := over_arrow RN RL kt to hto fs (i + 1) (fun b hb => h b (by simp [hb]))
    rw [raisedL, over, arrow, remT_li RN RL _ a K 0 hK, List.length_cons, show i + (fs.length + 1) = i + 1 + fs.length by omega, ih]
set_option maxRecDepth 100000 in
set_option maxHeartbeats 1000000 in
theorem great_is (t : Tm) (v : Value) (w : World) (hv : TmV w t v) (hn : nmOk t) (b : Bool) (hb : decide (2500 < rn t) = b) :
    Calls Tryz.prog 7 #[v] w (Ret w (.bool b)) := by
  obtain ⟨l, s, rfl, ht⟩ := hv
  obtain ⟨⟨la, ll, lc, rfl⟩, sa, sl, sc, rfl⟩ := tmP_slices ht
  have HV := Lib.hid (show TmV w t _ from ⟨_, _, rfl, ht⟩)
  have HN := Lib.hid hn
  obtain ⟨R, hR⟩ : ∃ R, min (rn t) (2500 + 1) = R := ⟨_, rfl⟩
  have HBB : Hid (decide ((2500 : Int) < (R : Int)) = b) := by
    have : decide ((2500 : Int) < (R : Int)) = b := by
      rw [← hb]
      by_cases h : 2500 < rn t
      · rw [decide_eq_true h]; simp; omega
      · rw [decide_eq_false h]; simp; omega
    exact this
  dsimp only [tv] at HV ⊢
  have HC := Lib.hid (fun (w' : World) (hw : Below w.heap.size w w') => rnodes_up 2500 (by omega) (tnodes t) t _ w' (Nat.le_refl _) HN.out (HV.out.below hw))
  rw [hR] at HC
  generalize tkOf t = k at *
  generalize tnOf t = n at *
  generalize tmOf t = m at *
  clear ht hn hb hR
  go_enter Tryz.func7, Tryz.ntmps7
  go_wp2_with fail
  have HB := Lib.hid (below_lit w (.cells #[.int .i64 k, .int .i64 n, .string m, .slice la ll lc, .slice sa sl sc] 25))
  generalize w.alloc (.cells #[.int .i64 k, .int .i64 n, .string m, .slice la ll lc, .slice sa sl sc] 25) = W at *
  refine (HC.out W HB.out).mono ?_
  rintro e w2 ⟨rfl, hb2⟩
  have HB2 := Lib.hid (HB.out.trans (hb2.mono HB.out.size))
  have hbb := HBB.out
  clear hb2
  go_wp2_with fail
  go_ret
  exact ⟨rfl, HB2.out⟩
end Trm
end Go.Proofs.YtbkdecgfiiajnaaGreatDoor
