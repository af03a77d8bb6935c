/-
  Plain facts about a name, its parts, its last dot, its parent and its last part.
  Conditions: none.
-/
import Derived.Test.YtnknaecfjkiibaaGreatDoorUnd
import Derived.Test.YtnknaecfjkiibaaGreatDoorJoin
import Derived.Test.YtnknaecfjkiibaaGreatDoorAlive
namespace Go.Proofs.YtnknaecfjkiibaaGreatDoor
open Go.RowKit

theorem okS_dot : ∀ (p r : List UInt8) (b : Bool), Nm.okS b (p ++ 46 :: r) = (Nm.okS b p && Nm.okS true r)
  | [], r, b => by rw [List.nil_append]; cases b <;> simp [Nm.okS]
  | c :: p, r, b => by
    rw [List.cons_append, Nm.okS, Nm.okS]
    by_cases hc : c = 46
    · rw [if_pos hc, if_pos hc, okS_dot p r true, Bool.and_assoc]
    · rw [if_neg hc, if_neg hc, okS_dot p r false]
      simp only [Bool.and_assoc]
theorem spl_last : ∀ (p r : List UInt8), (46 : UInt8) ∉ r → Nm.spl (p ++ 46 :: r) = Nm.spl p ++ [r]
  | [], r, h => by rw [List.nil_append, Nm.spl_dot, Nm.spl_nodot r h]; rfl
  | c :: p, r, h => by
    obtain ⟨q, t, e⟩ := Nm.spl_cases p
    have ih := spl_last p r h
    by_cases hc : c = 46
    · subst hc
      rw [List.cons_append, Nm.spl_dot, Nm.spl_dot, ih]; rfl
    · rw [e] at ih
      rw [List.cons_append, Nm.spl_cons hc e, Nm.spl_cons hc ih]; rfl
theorem data_get {s : ByteArray} {j : Nat} (h : j < s.size) : ∃ h' : j < s.data.toList.length, s.data[j]! = s.data.toList[j] := by
  have h' : j < s.data.toList.length := by rw [← Lib.size_eq]; exact h
  have h2 : j < s.data.size := by simpa using h'
  exact ⟨h', by rw [getElem!_pos s.data j h2]; simp⟩
theorem byte46 {c : UInt8} (h : ((c.toNat : Nat) : Int) = 46) : c = 46 := by
  apply UInt8.toNat_inj.1
  show c.toNat = 46
  omega
/-- Where the last dot stands. -/
theorem dot_split (s : ByteArray) : (dotI s = -1 ∧ (46 : UInt8) ∉ s.data.toList) ∨ ∃ p r, s.data.toList = p ++ 46 :: r ∧ (46 : UInt8) ∉ r ∧ dotI s = (p.length : Nat) := by
  rcases Lib.lastIndexByte_spec s 46 with ⟨h, hn⟩ | ⟨i, hi, h, hc, hn⟩
  · refine .inl ⟨h, fun hm => ?_⟩
    obtain ⟨j, hj, e⟩ := List.getElem_of_mem hm
    have hj' : j < s.size := by rw [Lib.size_eq]; exact hj
    obtain ⟨_, e2⟩ := data_get hj'
    refine hn j hj' ?_
    rw [e2, e]; rfl
  · obtain ⟨hi', e⟩ := data_get hi
    refine .inr ⟨s.data.toList.take i, s.data.toList.drop (i + 1), ?_, fun hm => ?_, ?_⟩
    · rw [e] at hc
      rw [← byte46 hc, List.getElem_cons_drop, List.take_append_drop]
    · obtain ⟨j, hj, e2⟩ := List.getElem_of_mem hm
      rw [List.getElem_drop] at e2
      rw [List.length_drop] at hj
      have hj' : i + 1 + j < s.size := by rw [Lib.size_eq]; omega
      obtain ⟨_, e3⟩ := data_get hj'
      refine hn (i + 1 + j) (by omega) hj' ?_
      rw [e3, e2]; rfl
    · rw [List.length_take]
      show dotI s = _
      unfold dotI
      rw [h, Nat.min_eq_left (by omega)]
theorem mk_eq {s : ByteArray} {l : List UInt8} (h : s.data.toList = l) : s = ⟨l.toArray⟩ := by rw [← h, Lib.mk_data]
theorem right_of {s : ByteArray} (h : s.size ≤ 40) (h' : Nm.okS true s.data.toList = true) : Nm.rightB s = true := by
  unfold Nm.rightB; rw [decide_eq_true h, h']; rfl
theorem right_parts {s : ByteArray} (h : Nm.rightB s = true) : s.size ≤ 40 ∧ Nm.okS true s.data.toList = true := by
  unfold Nm.rightB at h
  rw [Bool.and_eq_true, decide_eq_true_iff] at h
  exact h

/-- Each part of a name is a name. -/
theorem part_right {s x : ByteArray} (h : Nm.rightB s = true) (hx : x ∈ Nm.parts s) : Nm.rightB x = true := by
  obtain ⟨h1, h2⟩ := right_parts h
  have hl := part_size hx
  rw [← Nm.parts_all, List.all_eq_true] at h2
  have hp := h2 x hx
  have hm : x.data.toList ∈ Nm.spl s.data.toList := by rw [← Nm.parts_data]; exact List.mem_map_of_mem hx
  refine right_of (by omega) ?_
  rw [Nm.okS_parts, Nm.spl_nodot _ (Nm.spl_pieces _ _ hm), List.all_cons, hp]; rfl
theorem join_parts (s : ByteArray) : Lib.join ((Nm.parts s).map (·.data.toList)) [46] = s.data.toList := by
  rw [Nm.parts_data]; exact Nm.spl_join _
theorem parts_ne (s : ByteArray) : Nm.parts s ≠ [] := fun e => by
  have := Nm.parts_pos s
  rw [e] at this
  exact absurd this (by simp)
theorem lens_parts (s : ByteArray) : lensTo (Nm.parts s) (Nm.parts s).length = s.size + 1 := by
  have := join_len (Nm.parts s) (parts_ne s)
  rw [join_parts, ← Lib.size_eq] at this
  exact this.symm
theorem join_ok {s : ByteArray} (h : Nm.rightB s = true) : joinOk (Nm.parts s) = true := by
  obtain ⟨h1, _⟩ := right_parts h
  exact joinOk_all ⟨fun j hj _ => part_right h (List.getElem_mem hj), .inr (by rw [lens_parts]; omega)⟩ (parts_ne s)
theorem join_same {s : ByteArray} (h : Nm.rightB s = true) : joinS (Nm.parts s) = s := by
  rw [joinS_yes (join_ok h), join_parts]

/-- A name without a dot. -/
theorem parts_nodot {s : ByteArray} (h : (46 : UInt8) ∉ s.data.toList) : Nm.parts s = [s] := by
  rw [parts_eq (Nm.spl_nodot _ h)]
  simp

/-- A name with a dot: what stands ahead of the last one, and behind. -/
structure Dotted (s p l : ByteArray) : Prop where
  par : parentOf s = p
  last : lastOf s = l
  rp : Nm.rightB p = true
  rl : Nm.rightB l = true
  ne : p.data.toList ≠ []
  eq : s.data.toList = p.data.toList ++ 46 :: l.data.toList
  parts : ∃ ps, Nm.parts s = ps ++ [l]
theorem dotted {s : ByteArray} (h : Nm.rightB s = true) {p r : List UInt8} (e : s.data.toList = p ++ 46 :: r) (hr : (46 : UInt8) ∉ r) (hd : dotI s = (p.length : Nat)) : Dotted s ⟨p.toArray⟩ ⟨r.toArray⟩ := by
  obtain ⟨h1, h2⟩ := right_parts h
  rw [Lib.size_eq, e, List.length_append, List.length_cons] at h1
  rw [e, okS_dot, Bool.and_eq_true] at h2
  have e1 : parentOf s = ⟨p.toArray⟩ := by
    rw [parentOf_dot h hd, Lib.extract_upto, e]; simp
  have e2 : lastOf s = ⟨r.toArray⟩ := by
    rw [lastOf_dot h hd, Lib.extract_from, e, List.drop_append]; simp
  refine ⟨e1, e2, right_of (by rw [Lib.size_mk]; omega) h2.1, right_of (by rw [Lib.size_mk]; omega) h2.2, fun e3 => ?_, e, ?_⟩
  · have : p = [] := e3
    subst this
    exact absurd h2.1 (by simp [Nm.okS])
  · have hs := spl_last p r hr
    rw [← e] at hs
    refine ⟨(Nm.spl p).map fun q => ⟨q.toArray⟩, ?_⟩
    rw [parts_eq hs, List.map_append]; rfl
theorem dotted_join {s p l : ByteArray} (h : Nm.rightB s = true) (D : Dotted s p l) : joinOk [p, l] = true ∧ joinS [p, l] = s := by
  obtain ⟨h1, _⟩ := right_parts h
  have e := D.eq
  have hlen : lensTo [p, l] 2 = s.size + 1 := by
    rw [Lib.size_eq, e, List.length_append, List.length_cons, ← Lib.size_eq, ← Lib.size_eq]
    simp [lensTo]; omega
  have hok : joinOk [p, l] = true := by
    unfold joinOk
    rw [List.all_cons, List.all_cons, D.rp, D.rl]
    show (true && true && decide (lensTo [p, l] 2 ≤ 41)) = true
    rw [hlen, decide_eq_true (by omega)]; rfl
  refine ⟨hok, ?_⟩
  rw [joinS_yes hok]
  refine Eq.symm (mk_eq ?_)
  rw [e]
  simp [Lib.join, List.intercalate]
theorem dotted_under {s p l : ByteArray} (h : Nm.rightB s = true) (D : Dotted s p l) : underB s p = true ∧ underB p s = false := by
  refine ⟨under_of h D.rp (.inr ⟨_, D.eq⟩), ?_⟩
  cases hu : underB p s
  · rfl
  · have e := under_antisymm hu (under_of h D.rp (.inr ⟨_, D.eq⟩))
    have e2 := congrArg List.length D.eq
    rw [e] at e2
    simp at e2
theorem under_self {s : ByteArray} (h : Nm.rightB s = true) : underB s s = true := underB_self h
end Go.Proofs.YtnknaecfjkiibaaGreatDoor
