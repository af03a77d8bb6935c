/-
 Plain facts of the law BindOccurs, and two calls over values: where a constant occurs in what it was replaced in.
 Conditions: each fact's own.
-/
import Derived.Test.YteomfakbbcpckaaGreatDoorQLevd6
import Derived.Test.YteomfakbbcpckaaGreatDoorJ32
import Derived.Test.YteomfakbbcpckaaGreatDoorJ07
import Derived.Test.YteomfakbbcpckaaGreatDoorQAli6
namespace Go.Proofs.YteomfakbbcpckaaGreatDoor
open Go.RowKit
open Lvl
open Trm
namespace Bnd
abbrev occB (RN : ByteArray → Bool) (t : Tm) (nm : ByteArray) : Bool := decide (fstI nm (constsT RN t) < (constsT RN t).length)
theorem occ_iff (RN : ByteArray → Bool) (t : Tm) (nm : ByteArray) : occB RN t nm = true ↔ rightT RN 4 t 1125899906842624 = true ∧ hasC nm t := by
 rw [decide_eq_true_iff, occ_mem, hasC_pre]
theorem are2' {RN : ByteArray → Bool} {a b : Tm} (h : areB RN [a, b] = true) : rightT RN 4 a 1125899906842624 = true ∧ rightT RN 4 b 1125899906842624 = true := by
 simpa [areB] using h
theorem occ_eq {t u : Tm} {nm : ByteArray} (hq : (areB Nm.rightB [t, u] && decide (tnodes (subT (replF nm u) t 0) ≤ 2000)) = true) (ht : looseR t < 1099511627776) (hu : looseR u < 1099511627776) : occB Nm.rightB (subT (replF nm u) t 0) nm = (occB Nm.rightB t nm && occB Nm.rightB u nm) := by
 rw [Bool.and_eq_true, decide_eq_true_iff] at hq
 obtain ⟨ha, hn⟩ := hq
 obtain ⟨h1, h2⟩ := are2' ha
 rw [looseR_right h1] at ht
 rw [looseR_right h2] at hu
 obtain ⟨_, _, k1⟩ := rightT_ok h1
 obtain ⟨_, _, k2⟩ := rightT_ok h2
 have hx := right_of (k := 1099511627776) (by omega) (by omega) hn (repl_ok nm (right_lo h2 (by omega) (by omega)) (right_lo h1 (by omega) (by omega)))
 rw [Bool.eq_iff_iff, Bool.and_eq_true, occ_iff, occ_iff, occ_iff, hasC_repl nm u k2 k1]
 exact ⟨fun q => ⟨⟨h1, q.2.1⟩, ⟨h2, q.2.2⟩⟩, fun q => ⟨hx, q.1.2, q.2.2⟩⟩
theorem occ_none {t u : Tm} {nm : ByteArray} (hq : (areB Nm.rightB [t, u] && decide (tnodes (subT (replF nm u) t 0) ≤ 2000)) = true) (ho : occB Nm.rightB t nm = false) : subT (replF nm u) t 0 = t := by
 rw [Bool.and_eq_true] at hq
 obtain ⟨h1, _⟩ := are2' hq.1
 obtain ⟨_, _, k1⟩ := rightT_ok h1
 refine repl_none nm u k1 fun hc => ?_
 rw [(occ_iff Nm.rightB t nm).2 ⟨h1, hc⟩] at ho
 cases ho
theorem occ_self {t : Tm} {nm : ByteArray} (ho : occB Nm.rightB t nm = true) (hl : levC nm t = false) : (areB Nm.rightB [t, tcn nm] && decide (tnodes (subT (replF nm (tcn nm)) t 0) ≤ 2000)) = true ∧ subT (replF nm (tcn nm)) t 0 = t := by
 obtain ⟨h1, hc⟩ := (occ_iff Nm.rightB t nm).1 ho
 obtain ⟨_, hn, k1⟩ := rightT_ok h1
 have hs := repl_self nm k1 hl
 rw [hs, decide_eq_true hn, Bool.and_true]
 refine ⟨?_, rfl⟩
 unfold areB
 simp only [List.all_cons, List.all_nil, Bool.and_true, h1, right_tcn, right_has nm h1 hc]
theorem repl_v (RN : ByteArray → Bool) (t : Tm) (v : Value) (nm : ByteArray) (u : Tm) (v2 : Value) (w : World) (hv : TmV w t v) (hnm : nmOk t) (hvu : TmV w u v2) (hnu : nmOk u) (CN : NameC w RN) (b : Bool) (hb : (areB RN [t, u] && decide (tnodes (subT (replF nm u) t 0) ≤ 2000)) = b) :
  Calls Tryz.prog 26 #[v, .string nm, v2] w (BRet w b (subT (replF nm u) t 0)) := by
 obtain ⟨l, s, rfl, ht⟩ := hv
 obtain ⟨l2, s2, rfl, hu⟩ := hvu
 exact replace_is RN t l s nm u l2 s2 w ht hnm hu hnu CN b hb
theorem occ_v (RN : ByteArray → Bool) (t : Tm) (v : Value) (nm : ByteArray) (w : World) (hv : TmV w t v) (hm : tnodes t ≤ 100000) (hnm : nmOk t) (CN : NameC w RN) (b : Bool) (hb : occB RN t nm = b) :
  Calls Tryz.prog 20 #[v, .string nm] w (Ret w (.bool b)) := by
 obtain ⟨l, s, rfl, ht⟩ := hv
 exact occurs_is RN t l s nm w ht hm hnm CN b hb
/-- A call's answer, and where it lies. -/
theorem bret_loc {w : World} {ok : Bool} {T : Tm} {e : Ending} {w' : World} (h : BRet w ok T e w') : ∃ (U : Tm) (k n : Int) (m : ByteArray) (la : Option Addr) (ll lc : Nat) (sa : Option Addr) (sl sc : Nat), e = .returned (.tuple #[.agg #[.int .i64 k, .int .i64 n, .string m, .slice la ll lc, .slice sa sl sc], .bool ok]) ∧ Below w.heap.size w w' ∧ Hid (TmP w' (fun b => w.heap.size ≤ b) U (.slice la ll lc) (.slice sa sl sc)) ∧ Hid (tkOf U = k ∧ tnOf U = n ∧ tmOf U = m) ∧ Hid (ok = true → U = T) := by
 obtain ⟨hb, h⟩ := h
 cases ok with
 | true =>
  rw [if_pos rfl] at h
  obtain ⟨l, s, rfl, hp⟩ := h
  obtain ⟨⟨la, ll, lc, rfl⟩, sa, sl, sc, rfl⟩ := tmP_slices hp
  exact ⟨T, tkOf T, tnOf T, tmOf T, la, ll, lc, sa, sl, sc, rfl, hb, hp, ⟨rfl, rfl, rfl⟩, (show true = true → T = T from fun _ => rfl)⟩
 | false =>
  rw [if_neg (by decide)] at h
  rw [h]
  have hz : TmP w' (fun b => w.heap.size ≤ b) tzz (.slice none 0 0) (.slice none 0 0) := by
   rw [TmP, LvP]
   exact ⟨⟨none, 0, 0, rfl, rfl, Nat.le_refl _, by omega, fun _ => rfl, by rw [LsP]; trivial⟩, none, 0, 0, rfl, rfl, Nat.le_refl _, by omega, fun _ => rfl, by rw [TsP]; trivial⟩
  exact ⟨tzz, 0, 0, ⟨#[]⟩, none, 0, 0, none, 0, 0, rfl, hb, hz, ⟨rfl, rfl, rfl⟩, (show false = true → tzz = T from fun q => by cases q)⟩
end Bnd
end Go.Proofs.YteomfakbbcpckaaGreatDoor
