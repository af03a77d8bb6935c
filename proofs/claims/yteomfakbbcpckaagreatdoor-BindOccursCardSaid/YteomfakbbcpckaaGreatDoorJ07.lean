/-
  Plain facts and contracts that the law's proof stands on, joined.
  Conditions: each fact's own.
-/
import Derived.Deep.RegionHeld
namespace Go.Proofs.YteomfakbbcpckaaGreatDoor
open Go
section
variable {P : Program} {ops : Array Oper} {Q : Exit → Act → World → Prop} {md : Region.Mode} {S : World → Prop} {E : Nat}
def wpAnyE (P : Program) (md : Region.Mode) (ops : Array Oper) (Q : Exit → Act → World → Prop) (S : World → Prop) (E : Nat) : Nat → Array Bool → Act → World → Prop
 | 0, listed, a, w => Region.ready md ops listed = [] ∧ Q .normal a w
 | fuel + 1, listed, a, w =>
  (Region.ready md ops listed = [] → Q .normal a w) ∧
  ∀ i ∈ Region.ready md ops listed, wpOp P ops Q i (fun a' w' => ((listed.setIfInBounds i true).getD E false = false → S w') ∧ wpAnyE P md ops Q S E fuel (listed.setIfInBounds i true) a' w') a w
theorem wpAny_of_E : ∀ (fuel : Nat) (listed : Array Bool) (a : Act) (w : World), wpAnyE P md ops Q S E fuel listed a w → wpAny P md ops Q fuel listed a w
 | 0, _, _, _, h => h
 | fuel + 1, _, _, _, h => ⟨h.1, fun i hi => wpOp_mono (fun a' w' h' => wpAny_of_E fuel _ a' w' h'.2) (h.2 i hi)⟩
def Cl (md : Region.Mode) (ops : Array Oper) (listed : Array Bool) : Prop := ∀ k o, ops[k]? = some o → listed.getD k false = true → ∀ e ∈ o.after, Region.binds md e = true → listed.getD e.on false = true
theorem Cl.set {listed : Array Bool} (h : Cl md ops listed) {j : Nat} (hj : j ∈ Region.ready md ops listed) : Cl md ops (listed.setIfInBounds j true) := by
 intro k o ho hk e he hb
 by_cases hkj : k = j
 ·subst hkj
  obtain ⟨_, o', ho', hall⟩ := mem_ready.1 hj
  rw [ho] at ho'
  cases ho'
  exact getD_set_true (hall e he hb)
 ·rw [getD_set_ne false (fun e => hkj e.symm)] at hk
  exact getD_set_true (h k o ho hk e he hb)
def chain (md : Region.Mode) (ops : Array Oper) : Nat → List Nat → Bool
 | _, [] => true
 | k, d :: ds => ((ops[k]?).map (fun o => o.after.any fun e => Region.binds md e && e.on == d)).getD false && chain md ops d ds
theorem chain_listed {listed : Array Bool} (h : Cl md ops listed) : ∀ (ds : List Nat) (k i : Nat), chain md ops k ds = true → listed.getD k false = true → (k :: ds).getLast? = some i → listed.getD i false = true
 | [], k, i, _, hk, hl => by simp at hl; subst hl; exact hk
 | d :: ds, k, i, hc, hk, hl => by
  rw [chain, Bool.and_eq_true] at hc
  cases ho : ops[k]? with
  | none => rw [ho] at hc; simp at hc
  | some o =>
   rw [ho] at hc
   simp only [Option.map_some, Option.getD_some, Array.any_eq_true, Bool.and_eq_true, beq_iff_eq] at hc
   obtain ⟨⟨q, hq, hb, he⟩, hc2⟩ := hc
   have hd := h k o ho hk o.after[q] (Array.getElem_mem hq) hb
   rw [he] at hd
   exact chain_listed h ds d i hc2 hd (by simpa using hl)
theorem chain_waits {listed : Array Bool} (h : Cl md ops listed) {d : Nat} {ds : List Nat} {i : Nat} (hc : chain md ops E (d :: ds) = true) (hl : (d :: ds).getLast? = some i) (hi : listed.getD i true = false) : E ∉ Region.ready md ops listed := fun hr => by
 obtain ⟨_, o, ho, hall⟩ := mem_ready.1 hr
 rw [chain, Bool.and_eq_true, ho] at hc
 simp only [Option.map_some, Option.getD_some, Array.any_eq_true, Bool.and_eq_true, beq_iff_eq] at hc
 obtain ⟨⟨q, hq, hb, he⟩, hc2⟩ := hc
 have hd := hall o.after[q] (Array.getElem_mem hq) hb
 rw [he] at hd
 have := chain_listed h ds d i hc2 hd hl
 rcases Nat.lt_or_ge i listed.size with h' | h'
 ·simp [h'] at this hi
  rw [hi] at this
  cases this
 ·simp [Array.getElem?_eq_none h'] at this
theorem wpAnyE_first {i : Nat} {oi : Oper} {v : Value} (hi : ops[i]? = some oi) (hsel : ∀ (j : Nat) (o : Oper) cs b, ops[j]? = some o → o.op ≠ .select cs b)
  (hQ : ∀ c a w, Q (.panic c) (a.put oi.dst v) w → Q (.panic c) a w) (hiE : i ≠ E) {d : Nat} {ds : List Nat} (hch : chain md ops E (d :: ds) = true) (hla : (d :: ds).getLast? = some i) :
  ∀ (fuel : Nat) (listed : Array Bool) (a : Act) (w : World), Cl md ops listed → listed.getD E false = false →
   (∀ j oj, ops[j]? = some oj → j ≠ i → listed.getD j true = false → (∀ e ∈ oj.after, Region.binds md e = true → e.on ≠ i) → oi.apart ops oj = true) →
   i ∈ Region.ready md ops listed → YieldsIf P ops S oi v a → S w →
   wpAnyE P md ops Q S E fuel (listed.setIfInBounds i true) (a.put oi.dst v) w → wpAnyE P md ops Q S E (fuel + 1) listed a w := by
 intro fuel
 induction fuel with
 | zero =>
  intro listed a w _ _ _ hr hy hS H
  refine ⟨fun h => (by rw [h] at hr; cases hr), fun j hj => ?_⟩
  by_cases hji : j = i
  ·subst hji; exact hy.wpOp hi hS ⟨fun _ => hS, H⟩
  ·have := ready_mono hj hji
   rw [H.1] at this
   cases this
 | succ fuel ih =>
  intro listed a w hcl hE hfree hr hy hS H
  refine ⟨fun h => (by rw [h] at hr; cases hr), fun j hj => ?_⟩
  by_cases hji : j = i
  ·subst hji; exact hy.wpOp hi hS ⟨fun _ => hS, H⟩
  ·have h1 := H.2 j (ready_mono hj hji)
   have hun0 := (mem_ready.1 hr).1
   have hjE : j ≠ E := fun e => chain_waits hcl hch hla hun0 (e ▸ hj)
   obtain ⟨hjun, oj, hoj, hall⟩ := mem_ready.1 hj
   have hnot : ∀ e ∈ oj.after, Region.binds md e = true → e.on ≠ i := fun e he hb heq => by
    have h2 := hall e he hb
    rw [heq] at h2
    rcases Nat.lt_or_ge i listed.size with h' | h'
    ·simp [h'] at hun0 h2
     rw [hun0] at h2
     cases h2
    ·simp [Array.getElem?_eq_none h'] at h2
   have h2 := wpOp_putIf hoj (hfree j oj hoj hji hjun hnot) (fun cs b => hsel i oi cs b hi) (fun cs b => hsel j oj cs b hoj) hQ hy h1
   have hfree' : ∀ k ok, ops[k]? = some ok → k ≠ i → (listed.setIfInBounds j true).getD k true = false →
     (∀ e ∈ ok.after, Region.binds md e = true → e.on ≠ i) → oi.apart ops ok = true := fun k ok hk hki hun hno => by
    refine hfree k ok hk hki ?_ hno
    by_cases hjk : j = k
    ·subst hjk; exact hjun
    ·rw [getD_set_ne true hjk] at hun; exact hun
   have hE2 : (listed.setIfInBounds j true).getD E false = false := by rw [getD_set_ne false hjE]; exact hE
   have hE3 : ((listed.setIfInBounds i true).setIfInBounds j true).getD E false = false := by rw [getD_set_ne false hjE, getD_set_ne false hiE]; exact hE
   refine wpOp_mono (fun a' w' h3 => ⟨fun _ => h3.2.1 hE3, ih (listed.setIfInBounds j true) a' w' (hcl.set hj) hE2 hfree' (ready_mono hr (Ne.symm hji)) h3.1 (h3.2.1 hE3) ?_⟩) h2
   rw [Array.setIfInBounds_comm _ _ hji]
   exact h3.2.2
def clB (md : Region.Mode) (ops : Array Oper) (listed : Array Bool) : Bool :=
 (List.range ops.size).all fun k => !listed.getD k false || ((ops[k]?).map (fun o => o.after.all fun e => !Region.binds md e || listed.getD e.on false)).getD true
theorem cl_of {listed : Array Bool} (h : clB md ops listed = true) : Cl md ops listed := by
 intro k o ho hk e he hb
 rw [clB, List.all_eq_true] at h
 have h1 := h k (List.mem_range.2 (Array.getElem?_eq_some_iff.1 ho).1)
 rw [hk, ho] at h1
 simp only [Bool.not_true, Bool.false_or, Option.map_some, Option.getD_some, Array.all_eq_true] at h1
 obtain ⟨q, hq, rfl⟩ := Array.mem_iff_getElem.1 he
 have h2 := h1 q hq
 rw [hb] at h2
 simpa using h2
end
section
variable {P : Program} {l : List Oper} {Q : Exit → Act → World → Prop} {md : Region.Mode} {S : World → Prop} {E : Nat}
theorem at_of_dropE {i : Nat} {o : Oper} {rest : List Oper} (h : l.drop i = o :: rest) : l.toArray[i]? = some o := by
 have h2 : (l.drop i).head? = l[i]? := by simp
 rw [h] at h2
 simpa using h2.symm
theorem take_E {i : Nat} {o : Oper} {rest : List Oper} {v : Value} {fuel : Nat} {listed : Array Bool} {a : Act} {w : World} (d : Nat) (ds : List Nat) (hd : l.drop i = o :: rest)
  (hs : Region.noSelect l.toArray = true) (hf : Region.free md l.toArray listed i = true) (hr : (Region.ready md l.toArray listed).contains i = true)
  (hcl : clB md l.toArray listed = true) (hE : listed.getD E false = false) (hiE : i ≠ E) (hch : chain md l.toArray E (d :: ds) = true) (hla : (d :: ds).getLast? = some i)
  (hQ : ∀ c a w, Q (.panic c) (a.put o.dst v) w → Q (.panic c) a w) (hwd : Region.wanted o (yielded l.toArray a.tmps) = true)
  (hy : ∀ w, S w → (execOp a.eval o).run P w = .ok (.value v) w) (hS : S w)
  (h : wpAnyE P md l.toArray Q S E fuel (listed.setIfInBounds i true) (a.put o.dst v) w) : wpAnyE P md l.toArray Q S E (fuel + 1) listed a w :=
 wpAnyE_first (at_of_dropE hd) (Region.noSelect_spec hs) hQ hiE hch hla fuel listed a w (cl_of hcl) hE (Region.free_spec (at_of_dropE hd) hf) (by simpa using hr) (Or.inl ⟨hwd, hy⟩) hS h
theorem only_E {i : Nat} {o : Oper} {rest : List Oper} {fuel : Nat} {listed : Array Bool} {a : Act} {w : World} (hd : l.drop i = o :: rest)
  (hr : Region.ready md l.toArray listed = [i])
  (h : ∀ K' : Act → World → Prop, Shut (∀ a w, ((listed.setIfInBounds i true).getD E false = false → S w) → wpAnyE P md l.toArray Q S E fuel (listed.setIfInBounds i true) a w → K' a w) → if Region.wanted o (yielded l.toArray a.tmps) = true then Oper.wp P o a w K' Q else K' (a.put o.dst undef) w) :
  wpAnyE P md l.toArray Q S E (fuel + 1) listed a w :=
 ⟨fun h0 => (by rw [hr] at h0; cases h0), fun j hj => by
  rw [hr] at hj
  simp at hj
  subst hj
  exact wpOp_step (at_of_dropE hd) (fun K' hK => h K' (fun a w hS hW => hK a w ⟨hS, hW⟩))⟩
theorem done_E {listed : Array Bool} {a : Act} {w : World} (hr : Region.ready md l.toArray listed = []) (h : Q .normal a w) : ∀ fuel, wpAnyE P md l.toArray Q S E fuel listed a w
 | 0 => ⟨hr, h⟩
 | _ + 1 => ⟨fun _ => h, by rw [hr]; simp⟩
theorem region_E {id : Nat} {a : Act} {w : World} (E : Nat) (hm : P.follows .mixedOrders = true)
  (h : wpAnyE P .any l.toArray Q S E l.toArray.size (Array.replicate l.toArray.size false) a w.drew) : (Code.region id l.toArray true).wp P Q a w :=
 wp_region_any hm (wpAny_of_E _ _ _ _ h)
end
end Go.Proofs.YteomfakbbcpckaaGreatDoor
namespace Go.Proofs.YteomfakbbcpckaaGreatDoor
open Go
section
variable {P : Program} {l : List Oper} {Q : Exit → Act → World → Prop} {md : Region.Mode} {S : World → Prop}
theorem at_of_drop {i : Nat} {o : Oper} {rest : List Oper} (h : l.drop i = o :: rest) : l.toArray[i]? = some o := by
 have h2 : (l.drop i).head? = l[i]? := by simp
 rw [h] at h2
 simpa using h2.symm
theorem take_in {i : Nat} {o : Oper} {rest : List Oper} {v : Value} {fuel : Nat} {listed : Array Bool} {a : Act} {w : World} (hd : l.drop i = o :: rest)
  (hs : Region.noSelect l.toArray = true) (hf : Region.free md l.toArray listed i = true) (hr : (Region.ready md l.toArray listed).contains i = true)
  (hQ : ∀ c a w, Q (.panic c) (a.put o.dst v) w → Q (.panic c) a w) (hwd : Region.wanted o (yielded l.toArray a.tmps) = true)
  (hy : ∀ w, S w → (execOp a.eval o).run P w = .ok (.value v) w) (hS : S w)
  (h : wpAnyH P md l.toArray Q S fuel (listed.setIfInBounds i true) (a.put o.dst v) w) : wpAnyH P md l.toArray Q S (fuel + 1) listed a w :=
 wpAnyH_take (at_of_drop hd) hs hf hr hQ (Or.inl ⟨hwd, hy⟩) hS h
theorem skip_in {i : Nat} {o : Oper} {rest : List Oper} {fuel : Nat} {listed : Array Bool} {a : Act} {w : World} (hd : l.drop i = o :: rest)
  (hs : Region.noSelect l.toArray = true) (hf : Region.free md l.toArray listed i = true) (hr : (Region.ready md l.toArray listed).contains i = true)
  (hQ : ∀ c a w, Q (.panic c) (a.put o.dst undef) w → Q (.panic c) a w) (hwd : Region.wanted o (yielded l.toArray a.tmps) = false) (hS : S w)
  (h : wpAnyH P md l.toArray Q S fuel (listed.setIfInBounds i true) (a.put o.dst undef) w) : wpAnyH P md l.toArray Q S (fuel + 1) listed a w :=
 wpAnyH_take (at_of_drop hd) hs hf hr hQ (Or.inr ⟨hwd, rfl⟩) hS h
theorem call_in {i : Nat} {o : Oper} {rest : List Oper} {fuel : Nat} {listed : Array Bool} {a : Act} {w : World} (hd : l.drop i = o :: rest)
  (hr : Region.ready md l.toArray listed = [i])
  (h : ∀ K' : Act → World → Prop, Shut (∀ a w, S w → (S w → wpAnyH P md l.toArray Q S fuel (listed.setIfInBounds i true) a w) → K' a w) → if Region.wanted o (yielded l.toArray a.tmps) = true then Oper.wp P o a w K' Q else K' (a.put o.dst undef) w) :
  wpAnyH P md l.toArray Q S (fuel + 1) listed a w :=
 wpAnyH_ready hr (by simp) (AllReadyH.cons (at_of_drop hd) h AllReadyH.nil)
end
end Go.Proofs.YteomfakbbcpckaaGreatDoor
