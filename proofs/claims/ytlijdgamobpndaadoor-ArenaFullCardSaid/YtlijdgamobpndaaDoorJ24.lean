import Derived.Test.YtlijdgamobpndaaDoorJ03
import Derived.Laws.BytesArg
/-
  Slices of bytes in memory, in general: what lies there as a list of bytes, cut, owned, appended to, made into a text.
  Conditions: each text's own.
-/
namespace Go.Proofs.YtlijdgamobpndaaDoor
open Go.RowKit

/-- A byte as a cell. -/
abbrev bv (c : UInt8) : Value := .int .u8 (c.toNat : Int)
/-- The slice at address A holds these bytes. -/
def Byt (w : World) (A : Option Addr) (bs : List UInt8) : Prop :=
  bs ≠ [] → ∃ b o, A = some ⟨b, o, none⟩ ∧ b < w.heap.size ∧ ∀ j c, bs[j]? = some c → w.cell? ⟨b, o + j, none⟩ = some (bv c)
theorem Byt.below {w w' : World} {A : Option Addr} {bs : List UInt8} (h : Byt w A bs) (hb : Below w.heap.size w w') : Byt w' A bs := fun hne => by
  obtain ⟨b, o, rfl, hlt, hc⟩ := h hne
  exact ⟨b, o, rfl, Nat.lt_of_lt_of_le hlt hb.size, fun j x hx => (hb.cell (p := ⟨b, o + j, none⟩) hlt).trans (hc j x hx)⟩
theorem Byt.at_ {w : World} {A : Option Addr} {bs : List UInt8} (h : Byt w A bs) {k : Nat} (hk : k < bs.length) :
    ∃ b o, A = some ⟨b, o, none⟩ ∧ b < w.heap.size ∧ w.cell? ⟨b, o + k, none⟩ = some (bv bs[k]) := by
  obtain ⟨b, o, rfl, hlt, hc⟩ := h (by intro e; subst e; exact absurd hk (Nat.not_lt_zero _))
  exact ⟨b, o, rfl, hlt, hc k _ (List.getElem?_eq_getElem hk)⟩
theorem byt_nil (w : World) (A : Option Addr) : Byt w A [] := fun h => absurd rfl h
theorem Byt.drop {w : World} {b o : Nat} {bs : List UInt8} (h : Byt w (some ⟨b, o, none⟩) bs) (k : Nat) : Byt w (some ⟨b, o + k, none⟩) (bs.drop k) := fun hne => by
  obtain ⟨b', o', e, hlt, hc⟩ := h (fun e => hne (by rw [e]; simp))
  cases e
  refine ⟨b, o + k, rfl, hlt, fun j c hj => ?_⟩
  rw [List.getElem?_drop] at hj
  rw [Nat.add_assoc]
  exact hc (k + j) c hj
theorem Byt.take {w : World} {A : Option Addr} {bs : List UInt8} (h : Byt w A bs) (k : Nat) : Byt w A (bs.take k) := fun hne => by
  obtain ⟨b, o, e, hlt, hc⟩ := h (fun e => hne (by rw [e]; simp))
  refine ⟨b, o, e, hlt, fun j c hj => ?_⟩
  rw [List.getElem?_take] at hj
  split at hj
  · exact hc j c hj
  · cases hj
theorem infoU8 : (Tryd.prog.info? 5).map (fun i => (i.zero, i.size, i.bytes)) = some (some (.int .u8 0), 1, 1) := by kernel_rfl
theorem cell_alloc_bytes (w : World) (bs : List UInt8) (k : Nat) (hk : k < bs.length) : (w.alloc (.cells (bs.map bv).toArray 5)).cell? ⟨w.heap.size, k, none⟩ = some (bv bs[k]) := by
  rw [cell_of_row _ w.heap.size k (bs.map bv).toArray 5 (0, 0) (heap_alloc_new w _)]
  simp [hk]
theorem byt_new (w : World) (bs : List UInt8) : Byt (w.alloc (.cells (bs.map bv).toArray 5)) (some ⟨w.heap.size, 0, none⟩) bs := fun _ =>
  ⟨w.heap.size, 0, rfl, by simp, fun j x hx => by
    obtain ⟨hj, rfl⟩ := List.getElem?_eq_some_iff.1 hx
    rw [Nat.zero_add]
    exact cell_alloc_bytes w bs j hj⟩
theorem byt_lit (w : World) (bs : List UInt8) (O : Array Value) (hO : (bs.map bv).toArray = O) : Byt (w.alloc (.cells O 5)) (some ⟨w.heap.size, 0, none⟩) bs := by
  subst hO; exact byt_new w bs
/-- Bytes are answered, in new memory or none. -/
def BytRet (w : World) (bs : List UInt8) (e : Ending) (w' : World) : Prop :=
  ∃ A n c, e = .returned (.slice A n c) ∧ bs.length = n ∧ n ≤ c ∧ (A = none → c = 0) ∧ Byt w' A bs ∧ Below w.heap.size w w'
theorem byt_of_own {w : World} {base : Nat} {v : Value} {n : Nat} {bs : List UInt8} (h : w.ownsRow base 5 1 v n (bs.map bv)) :
    ∃ A c, v = .slice A n c ∧ bs.length = n ∧ n ≤ c ∧ (A = none → c = 0) ∧ Byt w A bs := by
  have hl : bs.length = n := by have := h.1; simpa using this
  rcases h.2 with ⟨rfl, rfl⟩ | ⟨g, cap, cur, rfl, hb, hg, hn, hm, hs, ht⟩
  · obtain rfl : bs = [] := List.length_eq_zero_iff.1 hl
    exact ⟨none, 0, rfl, rfl, Nat.le_refl _, fun _ => rfl, byt_nil _ _⟩
  · refine ⟨some ⟨g, 0, none⟩, cap, rfl, hl, hn, fun e => absurd e (by simp), fun _ => ⟨g, 0, rfl, (h.lt g rfl).2, fun j x hx => ?_⟩⟩
    have hj : j < n := by rw [← hl]; exact (List.getElem?_eq_some_iff.1 hx).1
    rw [Nat.zero_add, h.cellAt j (by omega), List.getElem?_map, hx]; rfl
theorem bytes_oneCell (bs : List UInt8) : ∀ u ∈ bs.map bv, u.oneCell' = true := by
  intro u h
  obtain ⟨x, _, rfl⟩ := List.mem_map.1 h
  rfl
theorem bytes_cells {w : World} {b o : Nat} {bs : List UInt8} (h : ∀ j x, bs[j]? = some x → w.cell? ⟨b, o + j, none⟩ = some (bv x)) : ∀ j u, (bs.map bv)[j]? = some u → w.cell? ((⟨b, o, none⟩ : Addr).add j) = some u := by
  intro j u hu
  rw [List.getElem?_map] at hu
  cases hj : bs[j]? with
  | none => rw [hj] at hu; simp at hu
  | some x =>
    rw [hj] at hu
    simp at hu
    subst hu
    rw [txt_add]
    exact h j x hj
/-- The cells of a slice of bytes, wherever it lies (an empty one's address tells nothing). -/
theorem Byt.cells {w : World} {ad : Addr} {bs : List UInt8} (h : Byt w (some ad) bs) : ∀ j u, (bs.map bv)[j]? = some u → w.cell? (ad.add j) = some u := by
  intro j u hu
  have hne : bs ≠ [] := fun e => by subst e; simp at hu
  obtain ⟨b, o, e, _, hc⟩ := h hne
  cases e
  exact bytes_cells hc j u hu
/-- A text's bytes are a slice's. -/
theorem run_text_of {w : World} {b o n c : Nat} {bs : List UInt8} (h : Byt w (some ⟨b, o, none⟩) bs) (hn : bs.length = n) : (convert 70 9 (.slice (some ⟨b, o, none⟩) n c)).run Tryd.prog w = .ok (.string ⟨bs.toArray⟩) w := by
  have e := run_convert_bytes_arg (P := Tryd.prog) w 70 5 (by kernel_rfl) (by kernel_rfl) b o n c (bs.map fun x => (x.toNat : Int)) (by rw [List.length_map]; exact hn) (fun i hi => by
    have hi2 : i < bs.length := by omega
    obtain ⟨b', o', e', _, hc⟩ := h.at_ hi2
    cases e'
    rw [hc]
    simp [List.getD, List.getElem?_eq_getElem hi2]) 9 (by kernel_rfl)
  rw [e]
  unfold strOfNums
  rw [List.map_map]
  have : ((fun n : Int => UInt8.ofNat n.toNat) ∘ fun x : UInt8 => (x.toNat : Int)) = id := by
    funext x; simp
  rw [this, List.map_id]
theorem run_text_nil {w : World} {c l : Nat} : (convert 70 9 (.slice none l c)).run Tryd.prog w = .ok (.string ByteArray.empty) w :=
  run_convert_bytes_nil w 70 5 (by kernel_rfl) (by kernel_rfl) l c 9 (by kernel_rfl)
end Go.Proofs.YtlijdgamobpndaaDoor
