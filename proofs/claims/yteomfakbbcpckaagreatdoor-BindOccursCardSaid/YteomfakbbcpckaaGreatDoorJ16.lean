/-
  Plain facts and contracts that the law's proof stands on, joined.
  Conditions: each fact's own.
-/
import Derived.Lib.Split
import Derived.Lib.Join
import Derived.Lib.IndexBytes
import Derived.Lib.CountLaws
import Derived.Lib.ItoaNum
import Derived.Lib.TrimByte
import Derived.Lib.LastIndexByte
namespace Go.Proofs.YteomfakbbcpckaaGreatDoor
namespace Nm
def pl (c : UInt8) : Bool := (decide (97 ≤ c.toNat) && decide (c.toNat ≤ 122)) || (decide (48 ≤ c.toNat) && decide (c.toNat ≤ 57)) || decide (c.toNat = 95)
def dg (c : UInt8) : Bool := decide (48 ≤ c.toNat) && decide (c.toNat ≤ 57)
def spl : List UInt8 → List (List UInt8)
 | [] => [[]]
 | c :: r => if c = 46 then [] :: spl r else match spl r with
  | [] => [[c]]
  | p :: t => (c :: p) :: t
theorem spl_ne (s : List UInt8) : spl s ≠ [] := by
 cases s with
 | nil => simp [spl]
 | cons c r =>
  unfold spl
  split
  ·simp
  ·split <;> simp
theorem spl_cases (s : List UInt8) : ∃ p t, spl s = p :: t := by
 match h : spl s with
 | [] => exact absurd h (spl_ne s)
 | p :: t => exact ⟨p, t, rfl⟩
theorem spl_dot (r : List UInt8) : spl (46 :: r) = [] :: spl r := by rw [spl, if_pos rfl]
theorem spl_cons {c : UInt8} {r p : List UInt8} {t : List (List UInt8)} (hc : c ≠ 46) (h : spl r = p :: t) : spl (c :: r) = (c :: p) :: t := by
 rw [spl, if_neg hc, h]
theorem spl_nodot : ∀ s : List UInt8, (46 : UInt8) ∉ s → spl s = [s]
 | [], _ => rfl
 | c :: r, h => spl_cons (fun e => h (by rw [e]; simp)) (spl_nodot r (fun hm => h (List.mem_cons_of_mem _ hm)))
theorem spl_append : ∀ (p r : List UInt8), (46 : UInt8) ∉ p → spl (p ++ 46 :: r) = p :: spl r
 | [], r, _ => spl_dot r
 | c :: p, r, h => spl_cons (fun e => h (by rw [e]; simp)) (spl_append p r (fun hm => h (List.mem_cons_of_mem _ hm)))
def partB (p : List UInt8) : Bool := !p.isEmpty && p.all pl && !(p.head?.map dg == some true)
def contB (first : Bool) (p : List UInt8) : Bool := if first then partB p else p.all pl
def okS : Bool → List UInt8 → Bool
 | first, [] => !first
 | first, c :: r => if c = 46 then !first && okS true r else pl c && !(first && dg c) && okS false r
theorem okS_spl : ∀ (s : List UInt8) (first : Bool) (p : List UInt8) (t : List (List UInt8)), spl s = p :: t → okS first s = (contB first p && t.all partB)
 | [], first, p, t, h => by
  simp [spl] at h
  obtain ⟨rfl, rfl⟩ := h
  cases first <;> simp [okS, contB, partB]
 | c :: r, first, p, t, h => by
  obtain ⟨p', t', e⟩ := spl_cases r
  by_cases hc : c = 46
  ·subst hc
   rw [spl_dot] at h
   obtain ⟨rfl, rfl⟩ := List.cons.inj h
   have ih := okS_spl r true p' t' e
   rw [okS, if_pos rfl, ih, e, List.all_cons]
   cases first <;> simp [contB, partB]
  ·rw [spl_cons hc e] at h
   obtain ⟨rfl, rfl⟩ := List.cons.inj h
   have ih := okS_spl r false p' t' e
   rw [okS, if_neg hc, ih]
   cases first <;> cases hp : pl c <;> cases hd : dg c <;> simp [contB, partB, hp, hd]
theorem okS_parts (s : List UInt8) : okS true s = (spl s).all partB := by
 obtain ⟨p, t, e⟩ := spl_cases s
 rw [okS_spl s true p t e, e, List.all_cons]; rfl
theorem index_dot (s : List UInt8) : (Lib.index s [46] = -1 ∧ (46 : UInt8) ∉ s) ∨ ∃ p r, s = p ++ 46 :: r ∧ (46 : UInt8) ∉ p ∧ Lib.index s [46] = p.length := by
 rw [Lib.index_one]
 induction s with
 | nil => exact .inl ⟨rfl, by simp⟩
 | cons c s ih =>
  by_cases hc : c = 46
  ·subst hc
   exact .inr ⟨[], s, rfl, by simp, by simp [Lib.indexByte]⟩
  ·rcases ih with ⟨h1, h2⟩ | ⟨p, r, rfl, h2, h3⟩
   ·exact .inl ⟨by simp [Lib.indexByte, hc, h1], by simp [Ne.symm hc, h2]⟩
   ·refine .inr ⟨c :: p, r, rfl, by simp [Ne.symm hc, h2], ?_⟩
    rw [Lib.indexByte, if_neg (by simpa using hc), h3, if_neg (by rw [beq_iff_eq]; omega)]
    simp
theorem split_spl (n : Nat) : ∀ s : List UInt8, s.length ≤ n → Lib.split s [46] = spl s := by
 induction n with
 | zero =>
  intro s h
  obtain rfl : s = [] := List.length_eq_zero_iff.1 (by omega)
  rfl
 | succ n ih =>
  intro s h
  rcases index_dot s with ⟨h1, h2⟩ | ⟨p, r, rfl, h2, h3⟩
  ·unfold Lib.split
   rw [Lib.count_miss h1, spl_nodot s h2]; rfl
  ·have hr : (p ++ 46 :: r).drop (p.length + [(46 : UInt8)].length) = r := by
    rw [List.drop_append]; simp
   unfold Lib.split
   rw [Lib.count_hit (i := p.length) (by simp) h3, hr, Nat.add_comm 1, spl_append p r h2, Lib.splitK, if_neg (by rw [h3, beq_iff_eq]; omega), h3]
   simp only [Int.toNat_natCast, Nat.add_zero]
   rw [hr]
   have := ih r (by simp at h; omega)
   unfold Lib.split at this
   rw [this]
   simp
theorem spl_count (n : Nat) : ∀ s : List UInt8, s.length ≤ n → (spl s).length = Lib.count s [46] + 1 := by
 induction n with
 | zero =>
  intro s h
  obtain rfl : s = [] := List.length_eq_zero_iff.1 (by omega)
  rfl
 | succ n ih =>
  intro s h
  rcases index_dot s with ⟨h1, h2⟩ | ⟨p, r, rfl, h2, h3⟩
  ·rw [Lib.count_miss h1, spl_nodot s h2]; rfl
  ·have hr : (p ++ 46 :: r).drop (p.length + [(46 : UInt8)].length) = r := by
    rw [List.drop_append]; simp
   rw [Lib.count_hit (i := p.length) (by simp) h3, hr, spl_append p r h2, List.length_cons, ih r (by simp at h; omega)]
   omega
theorem splitB_spl (s : ByteArray) : (Lib.splitB ⟨#[46]⟩ 0 (Lib.countB s ⟨#[46]⟩) s).map (·.data.toList) = spl s.data.toList := by
 rw [Lib.splitB_data]
 exact split_spl s.data.toList.length s.data.toList (Nat.le_refl _)
def parts (s : ByteArray) : List ByteArray := Lib.splitB ⟨#[46]⟩ 0 (Lib.countB s ⟨#[46]⟩) s
theorem parts_data (s : ByteArray) : (parts s).map (·.data.toList) = spl s.data.toList := splitB_spl s
theorem parts_length (s : ByteArray) : (parts s).length = Lib.countB s ⟨#[46]⟩ + 1 := by
 have := congrArg List.length (parts_data s)
 rw [List.length_map] at this
 exact this.trans (spl_count s.data.toList.length s.data.toList (Nat.le_refl _))
theorem spl_le : ∀ (s p : List UInt8), p ∈ spl s → p.length ≤ s.length
 | [], p, h => by simp [spl] at h; simp [h]
 | c :: r, p, h => by
  obtain ⟨p', t, e⟩ := spl_cases r
  have ih := spl_le r
  rw [e] at ih
  by_cases hc : c = 46
  ·subst hc
   rw [spl_dot, e, List.mem_cons] at h
   rcases h with rfl | h
   ·simp
   ·have := ih p h; simp; omega
  ·rw [spl_cons hc e, List.mem_cons] at h
   rcases h with rfl | h
   ·have := ih p' (by simp); simp; omega
   ·have := ih p (List.mem_cons_of_mem _ h); simp; omega
theorem spl_len_le : ∀ s : List UInt8, (spl s).length ≤ s.length + 1
 | [] => by simp [spl]
 | c :: r => by
  obtain ⟨p', t, e⟩ := spl_cases r
  have ih := spl_len_le r
  rw [e] at ih
  by_cases hc : c = 46
  ·subst hc; rw [spl_dot, e]; simp at ih ⊢; omega
  ·rw [spl_cons hc e]; simp at ih ⊢; omega
theorem parts_le (s : ByteArray) : (parts s).length ≤ s.size + 1 := by
 have h := spl_len_le s.data.toList
 rw [← parts_data, List.length_map] at h
 rw [Lib.size_eq]; exact h
def rightB (s : ByteArray) : Bool := decide (s.size ≤ 40) && okS true s.data.toList
theorem parts_all (s : ByteArray) : (parts s).all (fun x => partB x.data.toList) = okS true s.data.toList := by
 rw [okS_parts, ← parts_data, List.all_map]; rfl
end Nm
end Go.Proofs.YteomfakbbcpckaaGreatDoor
