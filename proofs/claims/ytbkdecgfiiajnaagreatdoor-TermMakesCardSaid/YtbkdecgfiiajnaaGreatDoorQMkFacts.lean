/-
  Plain facts that TermMakes comes down to: what is made of right parts is right, and has their nodes; the levels in what is right are small.
  Conditions: none.
-/
import Derived.Test.YtbkdecgfiiajnaaGreatDoorJ21
import Derived.Test.YtbkdecgfiiajnaaGreatDoorJ16
namespace Go.Proofs.YtbkdecgfiiajnaaGreatDoor
open Go.RowKit
open Lvl
namespace Trm
mutual
theorem okC_of {RN : ByteArray → Bool} {n : Int} : ∀ (t : Tm) (k d : Int), okT RN (rightB n) t k = true → okC cAll t d
  | .mk kd m nm ls ts, k, d, h => by
    rw [okT, Bool.and_eq_true] at h
    rw [okC]
    have h1 := h.1
    unfold shape at h1
    rw [Bool.and_eq_true] at h1
    refine ⟨⟨trivial, fun l hl => ?_⟩, okCL_of kd ts.length ts 0 0 k d h.2⟩
    have := List.all_eq_true.1 h1.1 l hl
    unfold rightB at this
    simp only [Bool.and_eq_true, decide_eq_true_eq] at this
    omega
theorem okCL_of {RN : ByteArray → Bool} {n : Int} (kd : Int) (len : Nat) : ∀ (ts : List Tm) (i j : Nat) (k d : Int), okTL RN (rightB n) kd ts i k = true → okCL cAll kd len ts j d
  | [], _, _, _, _, _ => by rw [okCL]; trivial
  | a :: ts, i, j, k, d, h => by
    rw [okTL, Bool.and_eq_true] at h
    rw [okCL]
    exact ⟨okC_of a _ _ h.1, okCL_of kd len ts (i + 1) (j + 1) k d h.2⟩
end
theorem right_lvOk {RN : ByteArray → Bool} {nn kk : Int} {t : Tm} (h : rightT RN nn t kk = true) : lvOk t := okC_of t _ 0 (rightT_ok h).2.2
theorem nmOk_apps : ∀ (ts : List Tm) (f : Tm), nmOk f → nmOkL ts → nmOk (apps f ts)
  | [], f, hf, _ => by rw [apps]; exact hf
  | a :: ts, f, hf, h => by
    rw [nmOkL] at h
    rw [apps]
    refine nmOk_apps ts _ ?_ h.2
    rw [nmOk, nmOkL, nmOkL, nmOkL]
    exact ⟨by rw [show (⟨#[]⟩ : ByteArray).size = 0 from rfl]; omega, hf, h.1, trivial⟩
theorem nmOk_over (kd : Int) (f : Tm) : ∀ (ts : List Tm), nmOk f → nmOkL ts → nmOk (over kd f ts)
  | [], hf, _ => by rw [over]; exact hf
  | a :: ts, hf, h => by
    rw [nmOkL] at h
    rw [over, nmOk, nmOkL, nmOkL, nmOkL]
    exact ⟨by rw [show (⟨#[]⟩ : ByteArray).size = 0 from rfl]; omega, h.1, nmOk_over kd f ts hf h.2, trivial⟩
/-- What the law sums up of the parts. -/
def sumM : List Tm → Nat
  | [] => 0
  | a :: ts => (min (tnodes a) 2001 + 1) + sumM ts
theorem sumM_append : ∀ (l r : List Tm), sumM (l ++ r) = sumM l + sumM r
  | [], r => by rw [List.nil_append, sumM]; omega
  | a :: l, r => by rw [List.cons_append, sumM, sumM, sumM_append l r]; omega
theorem sumM_take {ts : List Tm} {j : Nat} (h : j < ts.length) : sumM (ts.take (j + 1)) = sumM (ts.take j) + (min (tnodes ts[j]) 2001 + 1) := by
  rw [List.take_add_one, List.getElem?_eq_getElem h, sumM_append]
  simp [sumM]
theorem sumM_bd : ∀ ts : List Tm, sumM ts ≤ 2002 * ts.length
  | [] => by rw [sumM]; omega
  | a :: ts => by
    rw [sumM, List.length_cons]
    have := sumM_bd ts
    omega
theorem sumM_is : ∀ ts : List Tm, sumM ts ≤ 2000 → sumM ts = tnodesL ts + ts.length
  | [], _ => by rw [sumM, tnodesL]; rfl
  | a :: ts, h => by
    rw [sumM] at h ⊢
    have := sumM_is ts (by omega)
    rw [tnodesL, List.length_cons]
    omega
def allR (RN : ByteArray → Bool) (kk : Int) (ts : List Tm) : Bool := ts.all fun a => rightT RN 4 a kk
theorem allR_take {RN : ByteArray → Bool} {kk : Int} {ts : List Tm} {j : Nat} (h : j < ts.length) : allR RN kk (ts.take (j + 1)) = (allR RN kk (ts.take j) && rightT RN 4 ts[j] kk) := by
  unfold allR
  rw [List.take_add_one, List.getElem?_eq_getElem h, List.all_append]
  simp
/-- All that TermMakes says, of right parts that are not too many. -/
structure Made (RN : ByteArray → Bool) (f : Tm) (ts : List Tm) (kk : Int) (M : Nat) : Prop where
  le : M ≤ 2000
  na : tnodes (apps f ts) = M
  nl : tnodes (over 5 f ts) = M
  np : tnodes (over 6 f ts) = M
  ra : rightT RN 4 (apps f ts) kk = true
  rl : rightT RN 4 (over 5 f ts) kk = true
  rp : rightT RN 4 (over 6 f ts) kk = true
  nf : tnodes f ≤ 2000
  lf : lvOk f
  each : ∀ a ∈ ts, tnodes a ≤ 100000 ∧ lvOk a
theorem made_of {RN : ByteArray → Bool} {f : Tm} {ts : List Tm} {kk : Int} {M : Nat} (hf : rightT RN 4 f kk = true) (hts : allR RN kk ts = true) (hM : min (tnodes f) 2001 + sumM ts = M) (hle : M ≤ 2000) (hk : kk ≤ 100) : Made RN f ts kk M := by
  have hs := sumM_is ts (by omega)
  have hall : ∀ a ∈ ts, rightT RN 4 a kk = true := fun a ha => List.all_eq_true.1 hts a ha
  obtain ⟨h0, h1, h2⟩ := rightT_ok hf
  have e : min kk 1125899906842624 = kk := by omega
  rw [e] at h2
  have hall2 : ∀ a ∈ ts, okT RN (rightB 4) a kk = true := fun a ha => by
    have := (rightT_ok (hall a ha)).2.2
    rwa [e] at this
  have n1 := apps_nodes ts f
  have n2 := over_nodes 5 f ts
  have n3 := over_nodes 6 f ts
  exact ⟨hle, by omega, by omega, by omega, rightT_of h0 (by omega) (by rw [e]; exact apps_ok RN (rightB 4) ts f h2 hall2), rightT_of h0 (by omega) (by rw [e]; exact over_ok RN (rightB 4) (.inl rfl) f ts kk h0 h2 hall2),
    rightT_of h0 (by omega) (by rw [e]; exact over_ok RN (rightB 4) (.inr rfl) f ts kk h0 h2 hall2), h1, right_lvOk hf, fun a ha => ⟨by have := (rightT_ok (hall a ha)).2.1; omega, right_lvOk (hall a ha)⟩⟩
end Trm
end Go.Proofs.YtbkdecgfiiajnaaGreatDoor
