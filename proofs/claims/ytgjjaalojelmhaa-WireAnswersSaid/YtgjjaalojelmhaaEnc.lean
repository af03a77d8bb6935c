/-
  Plain facts about numbers as bytes (groups of seven bits, the lowest first), texts and lists as bytes: what is written is told in one way, whatever stands behind it.
  Conditions: none.
-/
import Derived.Test.YtgjjaalojelmhaaTexts
namespace Go.Proofs.Ytgjjaalojelmhaa
namespace Wire

/-- A number's bytes. -/
def enc (n : Nat) : List UInt8 := if h : n < 128 then [UInt8.ofNat n] else UInt8.ofNat (n % 128 + 128) :: enc (n / 128)
termination_by n
decreasing_by omega
theorem enc_small {n : Nat} (h : n < 128) : enc n = [UInt8.ofNat n] := by rw [enc, dif_pos h]
theorem enc_more {n : Nat} (h : ¬ n < 128) : enc n = UInt8.ofNat (n % 128 + 128) :: enc (n / 128) := by rw [enc, dif_neg h]
theorem toNat_small {n : Nat} (h : n < 256) : (UInt8.ofNat n).toNat = n := by
  simp [UInt8.toNat_ofNat']; omega
theorem ofNat_toNat (c : UInt8) : UInt8.ofNat c.toNat = c := by simp

/-- The number that bytes tell: the low seven bits of each, the first the lowest. -/
def val : List UInt8 → Nat
  | [] => 0
  | c :: r => c.toNat % 128 + 128 * val r
theorem val_enc (n : Nat) : val (enc n) = n := by
  induction n using Nat.strongRecOn with
  | _ n ih =>
    by_cases h : n < 128
    · rw [enc_small h, val, val, toNat_small (by omega)]; omega
    · rw [enc_more h, val, ih (n / 128) (by omega), toNat_small (by omega)]; omega
theorem val_append (p q : List UInt8) : val (p ++ q) = val p + 128 ^ p.length * val q := by
  induction p with
  | nil => simp [val]
  | cons c p ih =>
    rw [List.cons_append, val, val, ih, List.length_cons, Nat.pow_succ, Nat.mul_add, Nat.add_assoc, Nat.mul_comm (128 ^ p.length) 128, Nat.mul_assoc]
theorem val_lt (p : List UInt8) : val p < 128 ^ p.length := by
  induction p with
  | nil => simp [val]
  | cons c p ih =>
    rw [val, List.length_cons, Nat.pow_succ]
    have : c.toNat % 128 < 128 := Nat.mod_lt _ (by omega)
    omega

/-- Bytes that go on (128 and more), and one that ends. -/
def Shape (l : List UInt8) : Prop := ∃ p c, l = p ++ [c] ∧ (∀ x ∈ p, 128 ≤ x.toNat) ∧ c.toNat < 128
theorem enc_shape (n : Nat) : Shape (enc n) := by
  induction n using Nat.strongRecOn with
  | _ n ih =>
    by_cases h : n < 128
    · exact ⟨[], UInt8.ofNat n, by rw [enc_small h]; rfl, by simp, by rw [toNat_small (by omega)]; exact h⟩
    · obtain ⟨p, c, e, h1, h2⟩ := ih (n / 128) (by omega)
      refine ⟨UInt8.ofNat (n % 128 + 128) :: p, c, by rw [enc_more h, e]; rfl, fun x hx => ?_, h2⟩
      rcases List.mem_cons.1 hx with rfl | hx
      · rw [toNat_small (by omega)]; omega
      · exact h1 x hx
theorem shape_pre : ∀ {p q : List UInt8} {c d : UInt8} {r t : List UInt8}, (∀ x ∈ p, 128 ≤ x.toNat) → c.toNat < 128 → (∀ x ∈ q, 128 ≤ x.toNat) → d.toNat < 128 → p ++ c :: r = q ++ d :: t → p = q ∧ c = d ∧ r = t
  | [], [], c, d, r, t, _, _, _, _, h => by
    injection h with h1 h2
    exact ⟨rfl, h1, h2⟩
  | [], y :: q, c, d, r, t, _, hc, hq, _, h => by
    injection h with h1 h2
    have := hq y (by simp)
    subst h1
    omega
  | x :: p, [], c, d, r, t, hp, _, _, hd, h => by
    injection h with h1 h2
    have := hp x (by simp)
    subst h1
    omega
  | x :: p, y :: q, c, d, r, t, hp, hc, hq, hd, h => by
    rw [List.cons_append, List.cons_append] at h
    injection h with h1 h2
    obtain ⟨h3, h4, h5⟩ := shape_pre (fun z hz => hp z (List.mem_cons_of_mem _ hz)) hc (fun z hz => hq z (List.mem_cons_of_mem _ hz)) hd h2
    exact ⟨by rw [h1, h3], h4, h5⟩
theorem enc_pre {n m : Nat} {r t : List UInt8} (h : enc n ++ r = enc m ++ t) : n = m ∧ r = t := by
  obtain ⟨p, c, e1, h1, h2⟩ := enc_shape n
  obtain ⟨q, d, e2, h3, h4⟩ := enc_shape m
  rw [e1, e2, List.append_assoc, List.append_assoc] at h
  obtain ⟨h5, h6, h7⟩ := shape_pre h1 h2 h3 h4 h
  refine ⟨?_, h7⟩
  rw [← val_enc n, ← val_enc m, e1, e2, h5, h6]
theorem enc_inj {n m : Nat} (h : enc n = enc m) : n = m := (enc_pre (r := []) (t := []) (by rw [h])).1
theorem enc_pos (n : Nat) : 0 < (enc n).length := by
  obtain ⟨p, c, e, _⟩ := enc_shape n
  rw [e, List.length_append, List.length_singleton]; omega
theorem enc_len {n k : Nat} (h : n < 128 ^ (k + 1)) : (enc n).length ≤ k + 1 := by
  induction k generalizing n with
  | zero => rw [enc_small (by simpa using h)]; simp
  | succ k ih =>
    by_cases h1 : n < 128
    · rw [enc_small h1]; simp
    · rw [enc_more h1, List.length_cons]
      have : n / 128 < 128 ^ (k + 1) := by
        rw [Nat.pow_succ] at h
        exact Nat.div_lt_of_lt_mul (by rw [Nat.mul_comm]; exact h)
      have := ih this
      omega
theorem enc_mono {a b : Nat} (h : a ≤ b) : (enc a).length ≤ (enc b).length := by
  induction b using Nat.strongRecOn generalizing a with
  | _ b ih =>
    by_cases h1 : a < 128
    · rw [enc_small h1]; exact enc_pos b
    · rw [enc_more h1, enc_more (n := b) (by omega), List.length_cons, List.length_cons]
      have := ih (b / 128) (by omega) (Nat.div_le_div_right (c := 128) h)
      omega
theorem enc_six {n : Nat} (h : n ≤ 1099511627776) : (enc n).length ≤ 6 := enc_len (k := 5) (by omega)
theorem shape_get {l : List UInt8} (hs : Shape l) {i : Nat} (h : i < l.length) : (128 ≤ (l[i]).toNat) ↔ (i + 1 < l.length) := by
  obtain ⟨p, c, rfl, h1, h2⟩ := hs
  rw [List.length_append, List.length_singleton]
  rw [List.length_append, List.length_singleton] at h
  by_cases hi : i < p.length
  · rw [List.getElem_append_left hi]
    exact ⟨fun _ => by omega, fun _ => h1 _ (List.getElem_mem hi)⟩
  · have hi2 : i = p.length := by omega
    subst hi2
    rw [List.getElem_append_right (Nat.le_refl _)]
    simp only [Nat.sub_self, List.getElem_singleton]
    exact ⟨fun _ => by omega, fun _ => by omega⟩
theorem enc_get {n i : Nat} (h : i < (enc n).length) : (128 ≤ ((enc n)[i]).toNat) ↔ (i + 1 < (enc n).length) := shape_get (enc_shape n) h

/-- The number at the beginning of bytes, and what stands behind it. -/
def NumAt (b : List UInt8) (n : Nat) (r : List UInt8) : Prop := n ≤ 1099511627776 ∧ b = enc n ++ r
theorem NumAt.one {b : List UInt8} {n m : Nat} {r t : List UInt8} (h : NumAt b n r) (h' : NumAt b m t) : n = m ∧ r = t := enc_pre (h.2.symm.trans h'.2)
/-- Bytes that all go on, and one that ends: the number there, if there is one, is what they tell. -/
theorem numAt_iff {b : List UInt8} {i : Nat} (hi : i < b.length) (hp : ∀ j (hj : j < b.length), j < i → 128 ≤ (b[j]).toNat) (hc : (b[i]).toNat < 128) (n : Nat) (r : List UInt8) :
    NumAt b n r ↔ n ≤ 1099511627776 ∧ n = val (b.take (i + 1)) ∧ enc n = b.take (i + 1) ∧ r = b.drop (i + 1) := by
  have hsplit : b = b.take i ++ b[i] :: b.drop (i + 1) := by rw [← List.drop_eq_getElem_cons hi, List.take_append_drop]
  have htake : b.take (i + 1) = b.take i ++ [b[i]] := by rw [List.take_add_one, List.getElem?_eq_getElem hi]; rfl
  constructor
  · rintro ⟨h1, h2⟩
    obtain ⟨p, c, e, h3, h4⟩ := enc_shape n
    have h5 : b.take i ++ b[i] :: b.drop (i + 1) = p ++ c :: r := by
      rw [← hsplit]
      exact h2.trans (by rw [e, List.append_assoc]; rfl)
    obtain ⟨h6, h7, h8⟩ := shape_pre (fun x hx => by
      obtain ⟨j, hj, rfl⟩ := List.mem_take_iff_getElem.1 hx
      exact hp j (by omega) (by omega)) hc h3 h4 h5
    have h9 : enc n = b.take (i + 1) := by rw [htake, e, h6, h7]
    exact ⟨h1, by rw [← h9, val_enc], h9, h8.symm⟩
  · rintro ⟨h1, _, h3, h4⟩
    exact ⟨h1, by rw [h3, h4, List.take_append_drop]⟩
/-- Six bytes that go on, or bytes that all go on: no number. -/
theorem numAt_none {b : List UInt8} {i : Nat} (hp : ∀ j (hj : j < b.length), j < i → 128 ≤ (b[j]).toNat) (hi : b.length ≤ i ∨ 6 ≤ i) (n : Nat) (r : List UInt8) : ¬ NumAt b n r := by
  rintro ⟨h1, h2⟩
  have h3 := enc_six h1
  have h4 := enc_pos n
  have h5 : (enc n).length ≤ b.length := by rw [h2, List.length_append]; omega
  have h6 := enc_get (n := n) (i := (enc n).length - 1) (by omega)
  have h7 : b[(enc n).length - 1]'(by omega) = (enc n)[(enc n).length - 1]'(by omega) := by
    have : b[(enc n).length - 1]? = (enc n)[(enc n).length - 1]? := by rw [h2, List.getElem?_append_left (by omega)]
    rw [List.getElem?_eq_getElem (by omega), List.getElem?_eq_getElem (by omega)] at this
    exact Option.some.inj this
  have h8 := hp ((enc n).length - 1) (by omega) (by omega)
  rw [h7, h6] at h8
  omega

/-- The text at the beginning of bytes. -/
def TextAt (b s r : List UInt8) : Prop := s.length ≤ 1099511627776 ∧ b = enc s.length ++ (s ++ r)
theorem TextAt.one {b s t r q : List UInt8} (h : TextAt b s r) (h' : TextAt b t q) : s = t ∧ r = q := by
  obtain ⟨h1, h2⟩ := enc_pre (h.2.symm.trans h'.2)
  exact List.append_inj h2 h1
theorem textAt_num {b : List UInt8} {n : Nat} {r : List UInt8} (h : NumAt b n r) (s q : List UInt8) : TextAt b s q ↔ n ≤ r.length ∧ s = r.take n ∧ q = r.drop n := by
  constructor
  · rintro ⟨h1, h2⟩
    obtain ⟨h3, h4⟩ := enc_pre (h.2.symm.trans h2)
    subst h3
    subst h4
    exact ⟨by rw [List.length_append]; omega, by simp, by simp⟩
  · rintro ⟨h1, rfl, rfl⟩
    have : (r.take n).length = n := by rw [List.length_take]; omega
    refine ⟨by rw [this]; exact h.1, ?_⟩
    rw [this, List.take_append_drop]; exact h.2
theorem textAt_none {b : List UInt8} (h : ∀ n r, ¬ NumAt b n r) (s q : List UInt8) : ¬ TextAt b s q := fun ⟨h1, h2⟩ => h _ _ ⟨h1, h2⟩

/-- Texts as bytes, one behind the other; a list of them. -/
def textsE : List (List UInt8) → List UInt8
  | [] => []
  | s :: l => enc s.length ++ (s ++ textsE l)
theorem textsE_snoc (l : List (List UInt8)) (s : List UInt8) : textsE (l ++ [s]) = textsE l ++ (enc s.length ++ s) := by
  induction l with
  | nil => simp [textsE]
  | cons t l ih => rw [List.cons_append, textsE, textsE, ih]; simp
def Small (l : List (List UInt8)) : Prop := ∀ s ∈ l, s.length ≤ 1099511627776
/-- So many texts at the beginning of bytes. -/
def TextsAt (b : List UInt8) (l : List (List UInt8)) (r : List UInt8) : Prop := Small l ∧ b = textsE l ++ r
theorem TextsAt.one : ∀ {l k : List (List UInt8)} {b r q : List UInt8}, l.length = k.length → TextsAt b l r → TextsAt b k q → l = k ∧ r = q
  | [], [], b, r, q, _, h, h' => ⟨rfl, by have := h.2.symm.trans h'.2; simpa [textsE] using this⟩
  | s :: l, t :: k, b, r, q, hl, h, h' => by
    have e := h.2.symm.trans h'.2
    rw [textsE, textsE, List.append_assoc, List.append_assoc, List.append_assoc, List.append_assoc] at e
    obtain ⟨h1, h2⟩ := enc_pre e
    obtain ⟨h3, h4⟩ := List.append_inj h2 h1
    obtain ⟨h5, h6⟩ := TextsAt.one (b := textsE l ++ r) (by simpa using hl) ⟨fun x hx => h.1 x (List.mem_cons_of_mem _ hx), rfl⟩ ⟨fun x hx => h'.1 x (List.mem_cons_of_mem _ hx), h4⟩
    exact ⟨by rw [h3, h5], h6⟩
/-- The list at the beginning of bytes. -/
def TakeAt (b : List UInt8) (l : List (List UInt8)) (r : List UInt8) : Prop := l.length ≤ 1099511627776 ∧ Small l ∧ b = enc l.length ++ (textsE l ++ r)
theorem TakeAt.one {b : List UInt8} {l k : List (List UInt8)} {r q : List UInt8} (h : TakeAt b l r) (h' : TakeAt b k q) : l = k ∧ r = q := by
  obtain ⟨h1, h2⟩ := enc_pre (h.2.2.symm.trans h'.2.2)
  exact TextsAt.one (b := textsE l ++ r) h1 ⟨h.2.1, rfl⟩ ⟨h'.2.1, h2⟩
/-- Texts taken one by one: so far, and what comes next. -/
theorem textsAt_next {b : List UInt8} {l : List (List UInt8)} {r s q : List UInt8} (h : TextsAt b l r) (h' : TextAt r s q) : TextsAt b (l ++ [s]) q := by
  refine ⟨fun x hx => ?_, ?_⟩
  · rcases List.mem_append.1 hx with hx | hx
    · exact h.1 x hx
    · rw [List.mem_singleton] at hx; subst hx; exact h'.1
  · rw [textsE_snoc, h.2, h'.2]; simp
theorem textsE_append (l k : List (List UInt8)) : textsE (l ++ k) = textsE l ++ textsE k := by
  induction l with
  | nil => simp [textsE]
  | cons t l ih => rw [List.cons_append, textsE, textsE, ih]; simp
/-- If the next text isn't there, no more texts are. -/
theorem textsAt_stop {b : List UInt8} {l : List (List UInt8)} {r : List UInt8} (h : TextsAt b l r) (hn : ∀ s q, ¬ TextAt r s q) (k : List (List UInt8)) (q : List UInt8) (hk : l.length < k.length) : ¬ TextsAt b k q := by
  rintro ⟨h1, h2⟩
  have hsp : k = k.take l.length ++ k.drop l.length := (List.take_append_drop _ _).symm
  have h3 : TextsAt b (k.take l.length) (textsE (k.drop l.length) ++ q) := ⟨fun x hx => h1 x (List.mem_of_mem_take hx), by rw [h2, ← List.append_assoc, ← textsE_append, ← hsp]⟩
  obtain ⟨_, h4⟩ := TextsAt.one (by rw [List.length_take]; omega) h h3
  rw [List.drop_eq_getElem_cons hk, textsE] at h4
  exact hn k[l.length] (textsE (k.drop (l.length + 1)) ++ q) ⟨h1 _ (List.getElem_mem hk), by rw [h4]; simp⟩
end Wire
end Go.Proofs.Ytgjjaalojelmhaa
