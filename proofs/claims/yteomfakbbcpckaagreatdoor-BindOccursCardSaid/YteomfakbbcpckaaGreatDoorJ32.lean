/-
  Plain facts and contracts that the law's proof stands on, joined.
  Conditions: each fact's own.
-/
import Derived.Test.YteomfakbbcpckaaGreatDoorJ21
import Derived.Test.YteomfakbbcpckaaGreatDoorJ29
import Derived.Test.YteomfakbbcpckaaGreatDoorJ30
import Derived.Test.YteomfakbbcpckaaGreatDoorJ31
import Derived.Test.YteomfakbbcpckaaGreatDoorJ25
import Derived.Test.YteomfakbbcpckaaGreatDoorJ28
import Derived.Test.YteomfakbbcpckaaGreatDoorJ23
namespace Go.Proofs.YteomfakbbcpckaaGreatDoor
open Go.RowKit
open Lvl
open Trm
namespace Bnd
theorem tmV_parts {w : World} {t : Tm} {k n : Int} {m : ByteArray} {la : Option Addr} {ll lc : Nat} {sa : Option Addr} {sl sc : Nat} (h : TmV w t (.agg #[.int .i64 k, .int .i64 n, .string m, .slice la ll lc, .slice sa sl sc])) : tkOf t = k ∧ tnOf t = n ∧ tmOf t = m ∧ TmP w (fun _ => True) t (.slice la ll lc) (.slice sa sl sc) := by
 obtain ⟨l, s, e, hp⟩ := h
 simp [tv] at e
 obtain ⟨rfl, rfl, rfl, rfl, rfl⟩ := e
 exact ⟨rfl, rfl, rfl, hp⟩
theorem tmV_open {w : World} {t : Tm} {v : Value} (h : TmV w t v) : ∃ (k n : Int) (m : ByteArray) (la : Option Addr) (ll lc : Nat) (sa : Option Addr) (sl sc : Nat), v = .agg #[.int .i64 k, .int .i64 n, .string m, .slice la ll lc, .slice sa sl sc] := by
 obtain ⟨l, s, rfl, hp⟩ := h
 obtain ⟨⟨la, ll, lc, rfl⟩, sa, sl, sc, rfl⟩ := tmP_slices hp
 exact ⟨_, _, _, _, _, _, _, _, _, rfl⟩
theorem tsP_v1 {w : World} {a : Tm} {k n : Int} {m : ByteArray} {la : Option Addr} {ll lc : Nat} {sa : Option Addr} {sl sc : Nat} (ha : TmV w a (.agg #[.int .i64 k, .int .i64 n, .string m, .slice la ll lc, .slice sa sl sc])) : TsP (w.alloc (.cells #[.int .i64 k, .int .i64 n, .string m, .slice la ll lc, .slice sa sl sc] 25)) (fun _ => True) (some ⟨w.heap.size, 0, none⟩) 0 [a] := by
 obtain ⟨rfl, rfl, rfl, hp⟩ := tmV_parts ha
 exact tsP_row (ts := [a]) (ss := [(.slice la ll lc, .slice sa sl sc)]) rfl (heap_alloc_new w _) trivial (fun i h1 h2 => by
  obtain rfl : i = 0 := by simp at h1; omega
  exact tmP_below (below_lit w _) hp)
theorem tsP_v2 {w : World} {a b : Tm} {k n : Int} {m : ByteArray} {la : Option Addr} {ll lc : Nat} {sa : Option Addr} {sl sc : Nat} {k' n' : Int} {m' : ByteArray} {la' : Option Addr} {ll' lc' : Nat} {sa' : Option Addr} {sl' sc' : Nat} (ha : TmV w a (.agg #[.int .i64 k, .int .i64 n, .string m, .slice la ll lc, .slice sa sl sc])) (hb : TmV w b (.agg #[.int .i64 k', .int .i64 n', .string m', .slice la' ll' lc', .slice sa' sl' sc'])) : TsP (w.alloc (.cells #[.int .i64 k, .int .i64 n, .string m, .slice la ll lc, .slice sa sl sc, .int .i64 k', .int .i64 n', .string m', .slice la' ll' lc', .slice sa' sl' sc'] 25)) (fun _ => True) (some ⟨w.heap.size, 0, none⟩) 0 [a, b] := by
 obtain ⟨rfl, rfl, rfl, hp⟩ := tmV_parts ha
 obtain ⟨rfl, rfl, rfl, hq⟩ := tmV_parts hb
 exact tsP_row (ts := [a, b]) (ss := [(.slice la ll lc, .slice sa sl sc), (.slice la' ll' lc', .slice sa' sl' sc')]) rfl (heap_alloc_new w _) trivial (fun i h1 h2 => by
  have : i = 0 ∨ i = 1 := by simp at h1; omega
  rcases this with rfl | rfl
  ·exact tmP_below (below_lit w _) hp
  ·exact tmP_below (below_lit w _) hq)
theorem bret_any {w : World} {ok : Bool} {T : Tm} {e : Ending} {w' : World} (h : BRet w ok T e w') : ∃ (k n : Int) (m : ByteArray) (la : Option Addr) (ll lc : Nat) (sa : Option Addr) (sl sc : Nat), e = .returned (.tuple #[.agg #[.int .i64 k, .int .i64 n, .string m, .slice la ll lc, .slice sa sl sc], .bool ok]) ∧ Below w.heap.size w w' ∧ Hid (ok = true → TmV w' T (.agg #[.int .i64 k, .int .i64 n, .string m, .slice la ll lc, .slice sa sl sc])) := by
 obtain ⟨hb, h⟩ := h
 cases ok with
 | true =>
  rw [if_pos rfl] at h
  obtain ⟨l, s, rfl, hp⟩ := h
  obtain ⟨⟨la, ll, lc, rfl⟩, sa, sl, sc, rfl⟩ := tmP_slices hp
  exact ⟨tkOf T, tnOf T, tmOf T, la, ll, lc, sa, sl, sc, rfl, hb, (show true = true → TmV w' T _ from fun _ => ⟨_, _, rfl, tmP_weak (fun _ _ => trivial) hp⟩)⟩
 | false =>
  rw [if_neg (by decide)] at h
  subst h
  exact ⟨0, 0, ⟨#[]⟩, none, 0, 0, none, 0, 0, rfl, hb, (show false = true → TmV w' T _ from fun q => by cases q)⟩
theorem inst_v (RN : ByteArray → Bool) (t : Tm) (v : Value) (A : Option Addr) (len cap : Nat) (args : List Tm) (w : World) (hv : TmV w t v) (hnm : nmOk t) (hts : TsP w (fun _ => True) A 0 args) (hlen : args.length = len) (hl47 : len ≤ 140737488355328) (hnms : nmOkL args) (CN : NameC w RN) (b : Bool) (hb : (rightT RN 4 t 1125899906842624 && (areB RN args && decide (tnodes (subT (instF args) t 0) ≤ 2000))) = b) :
  Calls Tryz.prog 14 #[v, .slice A len cap] w (BRet w b (subT (instF args) t 0)) := by
 obtain ⟨l, s, rfl, ht⟩ := hv
 exact inst_is RN t l s A len cap args w ht hnm hts hlen hl47 hnms CN b hb
theorem lift_v (RN : ByteArray → Bool) (by' fr : Int) (t : Tm) (v : Value) (w : World) (hv : TmV w t v) (hnm : nmOk t) (CN : NameC w RN) (b : Bool) (hb : (!farB by' && (!farB fr && rightT RN 4 t 1125899906842624)) = b) :
  Calls Tryz.prog 13 #[v, .int .i64 by', .int .i64 fr] w (BRet w b (subT (raF by' fr) t 0)) := by
 obtain ⟨l, s, rfl, ht⟩ := hv
 exact lift_is RN by' fr t l s w ht hnm CN b hb
theorem lower_v (RN : ByteArray → Bool) (by' : Int) (t : Tm) (v : Value) (w : World) (hv : TmV w t v) (hnm : nmOk t) (CN : NameC w RN) (b : Bool) (hb : (!farB by' && (rightT RN 4 t 1125899906842624 && decide (cntT (fun n => decide (n < by')) t 0 = 0))) = b) :
  Calls Tryz.prog 16 #[v, .int .i64 by'] w (BRet w b (subT (raF (-by') by') t 0)) := by
 obtain ⟨l, s, rfl, ht⟩ := hv
 exact lower_is RN by' t l s w ht hnm CN b hb
theorem bcount_v (RN : ByteArray → Bool) (z : Int) (t : Tm) (v : Value) (w : World) (hv : TmV w t v) (hnm : nmOk t) (CN : NameC w RN) (c : Nat) (hc : (if rightT RN 4 t 1125899906842624 = true then cntT (fun n => n == z) t 0 else 0) = c) :
  Calls Tryz.prog 24 #[v, .int .i64 z] w (Ret w (.int .i64 c)) := by
 obtain ⟨l, s, rfl, ht⟩ := hv
 exact bcount_is RN z t l s w ht hnm CN c hc
theorem buses_v (RN : ByteArray → Bool) (z : Int) (t : Tm) (v : Value) (w : World) (hv : TmV w t v) (hnm : nmOk t) (CN : NameC w RN) (b : Bool) (hb : decide (0 < (if rightT RN 4 t 1125899906842624 = true then cntT (fun n => n == z) t 0 else 0)) = b) :
  Calls Tryz.prog 23 #[v, .int .i64 z] w (Ret w (.bool b)) := by
 obtain ⟨l, s, rfl, ht⟩ := hv
 exact buses_is RN z t l s w ht hnm CN b hb
theorem great_v (t : Tm) (v : Value) (ts : List Tm) (A : Option Addr) (len cap : Nat) (w : World) (hv : TmV w t v) (hnt : nmOk t) (hts : TsP w (fun _ => True) A 0 ts) (hlen : ts.length = len) (hl47 : len ≤ 140737488355328) (hnm : nmOkL ts) :
  Calls Tryz.prog 10 #[v, .slice A len cap] w (fun e w' => ∃ b, (b = false → rn t ≤ 2500 ∧ len ≤ 20) ∧ Ret w (.bool b) e w') := by
 obtain ⟨l, s, rfl, ht⟩ := hv
 exact h6_great t l s ts A len cap w ht hnt hts hlen hl47 hnm
end Bnd
end Go.Proofs.YteomfakbbcpckaaGreatDoor
namespace Go.Proofs.YteomfakbbcpckaaGreatDoor
open Go.RowKit
open Lvl
open Trm
namespace Bnd
mutual
theorem nmOk_sub {F : Tm → Nat → Tm} (hF : ∀ (k n : Int) (m : ByteArray) (ls : List Lv) (e : Nat), m.size ≤ 140737488355328 → nmOk (F (.mk k n m ls []) e)) : ∀ (t : Tm) (d : Nat), nmOk t → nmOk (subT F t d)
 | .mk k n m ls ts, d, h => by
  rw [nmOk] at h
  rw [subT]
  by_cases h0 : ts.length = 0
  ·rw [if_pos h0]
   exact hF k n m ls d h.1
  ·rw [if_neg h0, nmOk]
   exact ⟨by decide, nmOkL_sub hF k ts.length ts 0 d h.2⟩
theorem nmOkL_sub {F : Tm → Nat → Tm} (hF : ∀ (k n : Int) (m : ByteArray) (ls : List Lv) (e : Nat), m.size ≤ 140737488355328 → nmOk (F (.mk k n m ls []) e)) (k : Int) (len : Nat) : ∀ (ts : List Tm) (i d : Nat), nmOkL ts → nmOkL (subL F k len ts i d)
 | [], _, _, _ => by rw [subL, nmOkL]; trivial
 | a :: ts, i, d, h => by
  rw [nmOkL] at h
  rw [subL, nmOkL]
  exact ⟨nmOk_sub hF a _ h.1, nmOkL_sub hF k len ts (i + 1) d h.2⟩
end
theorem nm_var (n : Int) : nmOk (tvr n) := by rw [nmOk, nmOkL]; exact ⟨by decide, trivial⟩
theorem nm_mk (k n : Int) {m : ByteArray} (ls : List Lv) (h : m.size ≤ 140737488355328) : nmOk (.mk k n m ls []) := by rw [nmOk, nmOkL]; exact ⟨h, trivial⟩
theorem nm_ra (b c : Int) (t : Tm) (d : Nat) (h : nmOk t) : nmOk (subT (raF b c) t d) :=
 nmOk_sub (fun k n m ls e q => by
  rw [raF]
  split
  ·exact nm_var _
  ·exact nm_mk _ _ _ q) t d h
theorem nm_inst (args : List Tm) (ha : nmOkL args) (t : Tm) (d : Nat) (h : nmOk t) : nmOk (subT (instF args) t d) :=
 nmOk_sub (fun k n m ls e q => by
  rw [instF]
  split
  ·split
   ·refine nm_ra _ _ _ _ ?_
    rw [List.getD_eq_getElem?_getD]
    rcases hx : args[args.length - 1 - (n - e).toNat]? with _ | a
    ·exact nm_var _
    ·exact nmOkL_mem ha (List.mem_of_getElem? hx)
   ·exact nm_var _
  ·exact nm_mk _ _ _ q) t d h
theorem nm_repl (name : ByteArray) (b : Tm) (hb : nmOk b) (t : Tm) (d : Nat) (h : nmOk t) : nmOk (subT (replF name b) t d) :=
 nmOk_sub (fun k n m ls e q => by
  rw [replF]
  split
  ·exact nm_ra _ _ _ _ hb
  ·exact nm_mk _ _ _ q) t d h
theorem nm_abs (names : List ByteArray) (t : Tm) (d : Nat) (h : nmOk t) : nmOk (subT (absF names) t d) :=
 nmOk_sub (fun k n m ls e q => by
  rw [absF]
  split
  ·exact nm_var _
  ·rw [raF]
   split
   ·exact nm_var _
   ·exact nm_mk _ _ _ q) t d h
theorem leaf_tm (k n : Int) (m : ByteArray) (w : World) : TmP w (fun _ => True) (.mk k n m [] []) (.slice none 0 0) (.slice none 0 0) := by
 rw [TmP, LvP]
 exact ⟨⟨none, 0, 0, rfl, rfl, Nat.le_refl _, by omega, fun _ => rfl, by rw [LsP]; trivial⟩, none, 0, 0, rfl, rfl, Nat.le_refl _, by omega, fun _ => rfl, by rw [TsP]; trivial⟩
abbrev tzz : Tm := .mk 0 0 ⟨#[]⟩ [] []
theorem bret_tm {w : World} {ok : Bool} {T : Tm} {e : Ending} {w' : World} (h : BRet w ok T e w') (hn : nmOk T) : ∃ (U : Tm) (k n : Int) (m : ByteArray) (la : Option Addr) (ll lc : Nat) (sa : Option Addr) (sl sc : Nat), e = .returned (.tuple #[.agg #[.int .i64 k, .int .i64 n, .string m, .slice la ll lc, .slice sa sl sc], .bool ok]) ∧ Below w.heap.size w w' ∧ Hid (TmV w' U (.agg #[.int .i64 k, .int .i64 n, .string m, .slice la ll lc, .slice sa sl sc])) ∧ Hid (nmOk U) ∧ Hid (ok = true → U = T) := by
 obtain ⟨k, n, m, la, ll, lc, sa, sl, sc, he, hb, ht⟩ := bret_any h
 cases ok with
 | true => exact ⟨T, k, n, m, la, ll, lc, sa, sl, sc, he, hb, ht.out rfl, hn, (show true = true → T = T from fun _ => rfl)⟩
 | false =>
  obtain ⟨_, h⟩ := h
  rw [if_neg (by decide)] at h
  rw [h] at he
  have he' := he
  simp only [Ending.returned.injEq, Value.tuple.injEq, Value.agg.injEq, Array.mk.injEq, List.cons.injEq] at he'
  obtain ⟨hv, _⟩ := he'
  rw [h]
  exact ⟨tzz, 0, 0, ⟨#[]⟩, none, 0, 0, none, 0, 0, rfl, hb, (show TmV w' tzz _ from ⟨_, _, rfl, leaf_tm 0 0 ⟨#[]⟩ w'⟩), nm_mk 0 0 [] (by decide), (show false = true → tzz = T from fun q => by cases q)⟩
theorem and3 {a b c : Bool} (h : (a && (b && c)) = true) : a = true ∧ b = true ∧ c = true := by
 cases a <;> cases b <;> cases c <;> simp_all
end Bnd
end Go.Proofs.YteomfakbbcpckaaGreatDoor
namespace Go.Proofs.YteomfakbbcpckaaGreatDoor
open Go.RowKit
open Lvl
open Trm
namespace Bnd
theorem looseR_le {x : Tm} : 0 ≤ looseR x ∧ looseR x ≤ loT x 0 ∧ looseR x ≤ 1125899906842624 := by
 unfold looseR
 have h0 := loT_pos x 0
 split
 ·rename_i h
  obtain ⟨_, _, q⟩ := rightT_ok h
  have := (okT_lo Nm.rightB (rightB 4) x _ 1125899906842624 0 q (by omega)).1 (by rw [show (1125899906842624 : Int) + 0 = min 1125899906842624 1125899906842624 by omega]; exact q)
  omega
 ·omega
theorem looseR_right {x : Tm} (h : rightT Nm.rightB 4 x 1125899906842624 = true) : looseR x = loT x 0 := by rw [looseR, if_pos h]
theorem are2 {a b : Tm} (h : areB Nm.rightB [a, b] = true) : rightT Nm.rightB 4 a 1125899906842624 = true ∧ rightT Nm.rightB 4 b 1125899906842624 = true := by
 simpa [areB] using h
theorem wrI {x c : Int} (h : x = c) (h0 : -1000 ≤ c) (h1 : c ≤ 2000000000000000) : wrap64 x = c ∧ IntKind.i64.wrap x = c := by
 subst h
 exact ⟨IntWalk.wrap64_in _ ⟨by omega, by omega⟩, IntWalk.i64_in _ ⟨by omega, by omega⟩⟩
end Bnd
end Go.Proofs.YteomfakbbcpckaaGreatDoor
