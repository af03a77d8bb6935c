/-
  Plain facts about forms of levels: what a right level comes to where just certain parameters are 0, and that two levels are held against each other by their sixteen forms.
  Conditions: none.
-/
import Derived.Test.YteghldgopidhhaaLev
namespace Go.Proofs.Yteghldgopidhhaa
namespace Lvl

/-- A form: the least value, and what is added to each parameter, told one higher (0: it hangs not on it). -/
structure Fm where
  l : Nat
  a0 : Nat
  a1 : Nat
  a2 : Nat
  a3 : Nat
def Fm.at_ (F : Fm) : Nat → Nat
  | 0 => F.a0
  | 1 => F.a1
  | 2 => F.a2
  | 3 => F.a3
  | _ => 0
theorem Fm.ext_at {F G : Fm} (hl : F.l = G.l) (h : ∀ i, i < 4 → F.at_ i = G.at_ i) : F = G := by
  have h0 := h 0 (by omega)
  have h1 := h 1 (by omega)
  have h2 := h 2 (by omega)
  have h3 := h 3 (by omega)
  cases F; cases G
  simp only [Fm.at_] at h0 h1 h2 h3 hl
  subst hl; subst h0; subst h1; subst h2; subst h3
  rfl
def zeroF : Fm := ⟨0, 0, 0, 0, 0⟩
theorem zeroF_at (i : Nat) : zeroF.at_ i = 0 := by
  match i with
  | 0 => rfl
  | 1 => rfl
  | 2 => rfl
  | 3 => rfl
  | _ + 4 => rfl
def joinF (F G : Fm) : Fm := ⟨max F.l G.l, max F.a0 G.a0, max F.a1 G.a1, max F.a2 G.a2, max F.a3 G.a3⟩
theorem joinF_at (F G : Fm) {i : Nat} (h : i < 4) : (joinF F G).at_ i = max (F.at_ i) (G.at_ i) := by
  match i, h with
  | 0, _ => rfl
  | 1, _ => rfl
  | 2, _ => rfl
  | 3, _ => rfl
def up (x : Nat) : Nat := if 0 < x then x + 1 else x
def raiseF (F : Fm) : Fm := ⟨F.l + 1, up F.a0, up F.a1, up F.a2, up F.a3⟩
theorem raiseF_at (F : Fm) {i : Nat} (h : i < 4) : (raiseF F).at_ i = up (F.at_ i) := by
  match i, h with
  | 0, _ => rfl
  | 1, _ => rfl
  | 2, _ => rfl
  | 3, _ => rfl
/-- Is a parameter none of the set's, so above 0? -/
def on (z i : Nat) : Bool := z / 2 ^ i % 2 == 0
def oneAt (i : Nat) : Fm := ⟨1, if i = 0 then 1 else 0, if i = 1 then 1 else 0, if i = 2 then 1 else 0, if i = 3 then 1 else 0⟩
theorem oneAt_at {i j : Nat} (hj : j < 4) : (oneAt i).at_ j = if i = j then 1 else 0 := by
  match j, hj with
  | 0, _ => rfl
  | 1, _ => rfl
  | 2, _ => rfl
  | 3, _ => rfl
def parmF (i z : Nat) : Fm := if on z i then oneAt i else zeroF
def Fm.nil (F : Fm) : Bool := decide (F.l = 0) && (decide (F.a0 = 0) && (decide (F.a1 = 0) && (decide (F.a2 = 0) && decide (F.a3 = 0))))
theorem Fm.nil_iff {F : Fm} : F.nil = true ↔ F = zeroF := by
  cases F
  simp [Fm.nil, zeroF]
def formF (z : Nat) : L → Fm
  | .num n => ⟨n, 0, 0, 0, 0⟩
  | .par i => parmF i z
  | .succ a => raiseF (formF z a)
  | .max a b => joinF (formF z a) (formF z b)
  | .imax a b => if (formF z b).nil then zeroF else joinF (formF z a) (formF z b)

/-- Just the set's parameters are 0. -/
def Pat4 (z : Nat) (f : Nat → Nat) : Prop := ∀ i, i < 4 → (f i = 0 ↔ on z i = false)
/-- The form tells the level's values. -/
structure Sound (z : Nat) (x : L) (F : Fm) : Prop where
  le : ∀ i, i < 4 → F.at_ i ≤ F.l
  pos : ∀ i, i < 4 → 0 < F.at_ i → on z i = true
  small : F.l ≤ 100 + size x
  low : ∀ f, Pat4 z f → F.l ≤ val f x
  each : ∀ f, Pat4 z f → ∀ i, i < 4 → 0 < F.at_ i → f i + F.at_ i ≤ val f x + 1
  one : ∀ f, Pat4 z f → val f x = F.l ∨ ∃ i, i < 4 ∧ 0 < F.at_ i ∧ val f x + 1 = f i + F.at_ i
theorem sound_join {z : Nat} {a b x : L} {F G : Fm} (h1 : Sound z a F) (h2 : Sound z b G) (hx : size x = 1 + (size a + size b)) (hv : ∀ f, Pat4 z f → val f x = max (val f a) (val f b)) : Sound z x (joinF F G) := by
  have hl : (joinF F G).l = max F.l G.l := rfl
  refine ⟨fun i hi => ?_, fun i hi h => ?_, ?_, fun f hf => ?_, fun f hf i hi h => ?_, fun f hf => ?_⟩
  · rw [joinF_at F G hi, hl]
    have := h1.le i hi
    have := h2.le i hi
    omega
  · rw [joinF_at F G hi] at h
    by_cases h0 : 0 < F.at_ i
    · exact h1.pos i hi h0
    · exact h2.pos i hi (by omega)
  · have := h1.small
    have := h2.small
    rw [hl]; omega
  · have := h1.low f hf
    have := h2.low f hf
    rw [hl, hv f hf]; omega
  · rw [joinF_at F G hi] at h ⊢
    rw [hv f hf]
    by_cases hc : F.at_ i ≤ G.at_ i
    · have := h2.each f hf i hi (by omega)
      omega
    · have := h1.each f hf i hi (by omega)
      omega
  · rw [hv f hf, hl]
    by_cases hle : val f a ≤ val f b
    · rcases h2.one f hf with h | ⟨i, hi, h, h'⟩
      · left
        have := h1.low f hf
        omega
      · right
        refine ⟨i, hi, by rw [joinF_at F G hi]; omega, ?_⟩
        rw [joinF_at F G hi]
        by_cases hc : F.at_ i ≤ G.at_ i
        · omega
        · have := h1.each f hf i hi (by omega)
          omega
    · rcases h1.one f hf with h | ⟨i, hi, h, h'⟩
      · left
        have := h2.low f hf
        omega
      · right
        refine ⟨i, hi, by rw [joinF_at F G hi]; omega, ?_⟩
        rw [joinF_at F G hi]
        by_cases hc : G.at_ i ≤ F.at_ i
        · omega
        · have := h2.each f hf i hi (by omega)
          omega
theorem sound_zero {z : Nat} {x : L} (hv : ∀ f, Pat4 z f → val f x = 0) : Sound z x zeroF where
  le i _ := by rw [zeroF_at]; omega
  pos i _ h := by rw [zeroF_at] at h; omega
  small := Nat.zero_le _
  low f hf := Nat.zero_le _
  each f _ i _ h := by rw [zeroF_at] at h; omega
  one f hf := .inl (hv f hf)
theorem sound_nil {z : Nat} {x : L} {F : Fm} (h : Sound z x F) (hn : F.nil = true) {f : Nat → Nat} (hf : Pat4 z f) : val f x = 0 := by
  rw [Fm.nil_iff] at hn
  subst hn
  rcases h.one f hf with h | ⟨i, _, h, _⟩
  · exact h
  · rw [zeroF_at] at h; omega
theorem sound_some {z : Nat} {x : L} {F : Fm} (h : Sound z x F) (hn : F.nil = false) {f : Nat → Nat} (hf : Pat4 z f) : 0 < val f x := by
  have h1 := h.low f hf
  have h2 : F.l ≠ 0 := fun e => by
    have h0 := h.le 0 (by omega)
    have h1 := h.le 1 (by omega)
    have h2 := h.le 2 (by omega)
    have h3 := h.le 3 (by omega)
    simp only [Fm.at_, e] at h0 h1 h2 h3
    have : F.nil = true := by
      unfold Fm.nil
      rw [e]
      simp
      omega
    rw [this] at hn
    cases hn
  omega
theorem sound_of (z : Nat) : ∀ (x : L), Ok 4 x → Sound z x (formF z x)
  | .num n, h => by
    have hn : n ≤ 100 := h
    have h0 : ∀ i, i < 4 → (formF z (.num n)).at_ i = 0 := fun i hi => by
      match i, hi with
      | 0, _ => rfl
      | 1, _ => rfl
      | 2, _ => rfl
      | 3, _ => rfl
    exact ⟨fun i hi => by rw [h0 i hi]; omega, fun i hi h => by rw [h0 i hi] at h; omega, by show n ≤ _; simp only [size]; omega, fun f _ => Nat.le_refl _, fun f _ i hi h => by rw [h0 i hi] at h; omega, fun f _ => .inl rfl⟩
  | .par i, h => by
    have hi : i < 4 := h
    show Sound z (.par i) (parmF i z)
    unfold parmF
    cases hz : on z i
    · exact sound_zero fun f hf => (hf i hi).2 hz
    · rw [if_pos rfl]
      have hl : (oneAt i).l = 1 := rfl
      refine ⟨fun j hj => ?_, fun j hj h => ?_, ?_, fun f hf => ?_, fun f hf j hj h => ?_, fun f hf => .inr ⟨i, hi, ?_, ?_⟩⟩
      · rw [oneAt_at hj, hl]; split <;> omega
      · rw [oneAt_at hj] at h
        by_cases e : i = j
        · subst e; exact hz
        · rw [if_neg e] at h; omega
      · rw [hl]; omega
      · rw [hl]
        show 1 ≤ f i
        have : f i ≠ 0 := fun e => by rw [(hf i hi).1 e] at hz; cases hz
        omega
      · rw [oneAt_at hj] at h ⊢
        by_cases e : i = j
        · subst e
          rw [if_pos rfl]
          exact Nat.le_refl _
        · rw [if_neg e] at h; omega
      · rw [oneAt_at hi, if_pos rfl]; omega
      · rw [oneAt_at hi, if_pos rfl]; rfl
  | .succ a, h => by
    have ih := sound_of z a h
    have hl : (formF z (.succ a)).l = (formF z a).l + 1 := rfl
    have ha : ∀ i, i < 4 → (formF z (.succ a)).at_ i = up ((formF z a).at_ i) := fun i hi => raiseF_at _ hi
    have hv : ∀ f, val f (.succ a) = val f a + 1 := fun _ => rfl
    refine ⟨fun i hi => ?_, fun i hi h => ?_, ?_, fun f hf => ?_, fun f hf i hi h => ?_, fun f hf => ?_⟩
    · have := ih.le i hi
      rw [ha i hi, hl]
      unfold up
      split <;> omega
    · rw [ha i hi] at h
      unfold up at h
      split at h
      · exact ih.pos i hi (by omega)
      · exact ih.pos i hi h
    · have := ih.small
      rw [hl]; simp only [size]; omega
    · have := ih.low f hf
      rw [hl, hv]; omega
    · rw [ha i hi] at h ⊢
      unfold up at h ⊢
      rw [hv]
      split at h
      · have := ih.each f hf i hi (by omega)
        rw [if_pos (by omega)]
        omega
      · omega
    · rw [hv, hl]
      rcases ih.one f hf with h | ⟨i, hi, h, h'⟩
      · left; omega
      · right
        refine ⟨i, hi, ?_, ?_⟩ <;> rw [ha i hi] <;> unfold up <;> rw [if_pos h] <;> omega
  | .max a b, h => sound_join (sound_of z a h.1) (sound_of z b h.2) rfl fun _ _ => rfl
  | .imax a b, h => by
    have ha := sound_of z a h.1
    have hb := sound_of z b h.2
    show Sound z (.imax a b) (if (formF z b).nil then zeroF else joinF (formF z a) (formF z b))
    cases hn : (formF z b).nil
    · refine sound_join ha hb rfl fun f hf => ?_
      have := sound_some hb hn hf
      show (if val f b = 0 then 0 else max (val f a) (val f b)) = _
      rw [if_neg (by omega)]
    · refine sound_zero fun f hf => ?_
      show (if val f b = 0 then 0 else max (val f a) (val f b)) = _
      rw [if_pos (sound_nil hb hn hf)]

/-- The set of the parameters that are 0. -/
def setOf (f : Nat → Nat) : Nat := (if f 0 = 0 then 1 else 0) + ((if f 1 = 0 then 2 else 0) + ((if f 2 = 0 then 4 else 0) + (if f 3 = 0 then 8 else 0)))
theorem setOf_lt (f : Nat → Nat) : setOf f < 16 := by
  unfold setOf
  split <;> split <;> split <;> split <;> omega
theorem setOf_pat (f : Nat → Nat) : Pat4 (setOf f) f := by
  intro i hi
  have key : ∀ i, i < 4 → (f i = 0 ↔ on (setOf f) i = false) := by
    intro i hi
    match i, hi with
    | 0, _ => unfold setOf on; by_cases h0 : f 0 = 0 <;> by_cases h1 : f 1 = 0 <;> by_cases h2 : f 2 = 0 <;> by_cases h3 : f 3 = 0 <;> simp [h0, h1, h2, h3]
    | 1, _ => unfold setOf on; by_cases h0 : f 0 = 0 <;> by_cases h1 : f 1 = 0 <;> by_cases h2 : f 2 = 0 <;> by_cases h3 : f 3 = 0 <;> simp [h0, h1, h2, h3]
    | 2, _ => unfold setOf on; by_cases h0 : f 0 = 0 <;> by_cases h1 : f 1 = 0 <;> by_cases h2 : f 2 = 0 <;> by_cases h3 : f 3 = 0 <;> simp [h0, h1, h2, h3]
    | 3, _ => unfold setOf on; by_cases h0 : f 0 = 0 <;> by_cases h1 : f 1 = 0 <;> by_cases h2 : f 2 = 0 <;> by_cases h3 : f 3 = 0 <;> simp [h0, h1, h2, h3]
  exact key i hi
/-- Each part is at most that of the other form. -/
def LeF (F G : Fm) : Prop := F.l ≤ G.l ∧ ∀ i, i < 4 → F.at_ i ≤ G.at_ i
theorem joinF_le {F G : Fm} : joinF F G = G ↔ LeF F G := by
  constructor
  · intro h
    have hl : max F.l G.l = G.l := congrArg Fm.l h
    refine ⟨by omega, fun i hi => ?_⟩
    have := joinF_at F G hi
    rw [h] at this
    omega
  · rintro ⟨h1, h2⟩
    refine Fm.ext_at ?_ fun i hi => ?_
    · show max F.l G.l = G.l
      omega
    · rw [joinF_at F G hi]
      have := h2 i hi
      omega
def onesZ (z : Nat) : Nat → Nat := fun i => if on z i then 1 else 0
theorem onesZ_pat (z : Nat) : Pat4 z (onesZ z) := fun i _ => by
  unfold onesZ
  cases on z i <;> simp
theorem sound_leq {z : Nat} {x y : L} {F G : Fm} (hx : Sound z x F) (hy : Sound z y G) (ny : size y ≤ 500) : LeF F G ↔ ∀ f, Pat4 z f → val f x ≤ val f y := by
  constructor
  · rintro ⟨h1, h2⟩ f hf
    have := hy.low f hf
    rcases hx.one f hf with h | ⟨i, hi, h, h'⟩
    · omega
    · have := h2 i hi
      have := hy.each f hf i hi (by omega)
      omega
  · intro h
    have hone : ∀ i, onesZ z i ≤ 1 := fun i => by unfold onesZ; split <;> omega
    have hyl := hy.small
    refine ⟨?_, fun i hi => ?_⟩
    · have h1 := h (onesZ z) (onesZ_pat z)
      have h2 := hx.low _ (onesZ_pat z)
      rcases hy.one _ (onesZ_pat z) with h3 | ⟨i, hi, h3, h4⟩
      · omega
      · have := hy.le i hi
        have := hone i
        omega
    · rcases Nat.eq_zero_or_pos (F.at_ i) with h0 | h0
      · omega
      have hon := hx.pos i hi h0
      let g : Nat → Nat := fun j => if j = i then 1000 else onesZ z j
      have gi : g i = 1000 := by show (if i = i then 1000 else onesZ z i) = 1000; rw [if_pos rfl]
      have gj : ∀ j, j ≠ i → g j ≤ 1 := fun j hj => by show (if j = i then 1000 else onesZ z j) ≤ 1; rw [if_neg hj]; exact hone j
      have hg : Pat4 z g := fun j hj => by
        show (if j = i then 1000 else onesZ z j) = 0 ↔ _
        by_cases hji : j = i
        · subst hji
          rw [if_pos rfl, hon]; simp
        · rw [if_neg hji]; exact onesZ_pat z j hj
      have h1 := h g hg
      have h2 := hx.each g hg i hi h0
      rcases hy.one g hg with h3 | ⟨j, hj, h3, h4⟩
      · omega
      · by_cases hji : j = i
        · subst hji; omega
        · have := gj j hji
          have := hy.le j hj
          omega
theorem leqZ {x y : L} (h : ∀ z, z < 16 → ∀ f, Pat4 z f → val f x ≤ val f y) : Leq x y := fun f => h (setOf f) (setOf_lt f) f (setOf_pat f)
/-- Two levels are held against each other by their forms. -/
theorem forms_leq {x y : L} (hx : Ok 4 x) (hy : Ok 4 y) (ny : size y ≤ 500) : (∀ z, z < 16 → joinF (formF z x) (formF z y) = formF z y) ↔ Leq x y := by
  constructor
  · intro h
    exact leqZ fun z hz => (sound_leq (sound_of z x hx) (sound_of z y hy) ny).1 (joinF_le.1 (h z hz))
  · intro h z hz
    exact joinF_le.2 ((sound_leq (sound_of z x hx) (sound_of z y hy) ny).2 fun f _ => h f)
theorem LeF.anti {F G : Fm} (h : LeF F G) (k : LeF G F) : F = G :=
  Fm.ext_at (Nat.le_antisymm h.1 k.1) fun i hi => Nat.le_antisymm (h.2 i hi) (k.2 i hi)
theorem LeF.rfl' (F : Fm) : LeF F F := ⟨Nat.le_refl _, fun _ _ => Nat.le_refl _⟩
theorem forms_same {x y : L} (hx : Ok 4 x) (hy : Ok 4 y) (nx : size x ≤ 500) (ny : size y ≤ 500) : (∀ z, z < 16 → formF z x = formF z y) ↔ Leq x y ∧ Leq y x := by
  constructor
  · intro h
    refine ⟨(forms_leq hx hy ny).1 fun z hz => ?_, (forms_leq hy hx nx).1 fun z hz => ?_⟩
    · rw [h z hz]; exact joinF_le.2 (LeF.rfl' _)
    · rw [h z hz]; exact joinF_le.2 (LeF.rfl' _)
  · rintro ⟨h1, h2⟩ z hz
    exact (joinF_le.1 ((forms_leq hx hy ny).2 h1 z hz)).anti (joinF_le.1 ((forms_leq hy hx nx).2 h2 z hz))
theorem forms_zero {x : L} (hx : Ok 4 x) : (∀ z, z < 16 → formF z x = zeroF) ↔ Leq x (.num 0) := by
  constructor
  · intro h
    refine leqZ fun z hz f hf => ?_
    rw [sound_nil (sound_of z x hx) (Fm.nil_iff.2 (h z hz)) hf]
    exact Nat.zero_le _
  · intro h z hz
    cases hn : (formF z x).nil
    · have h1 := sound_some (sound_of z x hx) hn (onesZ_pat z)
      have h2 : val (onesZ z) x ≤ 0 := h (onesZ z)
      omega
    · exact Fm.nil_iff.1 hn
theorem forms_never {x : L} (hx : Ok 4 x) : (∀ z, z < 16 → formF z x ≠ zeroF) ↔ Leq (.num 1) x := by
  constructor
  · intro h
    refine leqZ fun z hz f hf => ?_
    refine sound_some (sound_of z x hx) ?_ hf
    cases hn : (formF z x).nil
    · rfl
    · exact absurd (Fm.nil_iff.1 hn) (h z hz)
  · intro h z hz e
    have h1 := sound_nil (sound_of z x hx) (Fm.nil_iff.2 e) (onesZ_pat z)
    have h2 : 1 ≤ val (onesZ z) x := h (onesZ z)
    omega
end Lvl
end Go.Proofs.Yteghldgopidhhaa
