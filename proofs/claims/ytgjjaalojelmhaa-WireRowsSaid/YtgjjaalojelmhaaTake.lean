/-
  The contracts of package wire's functions text, Num, Text and Take, each said by what stands at the beginning of bytes.
  Conditions: each contract's own.
-/
import Derived.Test.YtgjjaalojelmhaaRead
namespace Go.Proofs.Ytgjjaalojelmhaa
open Go.RowKit
open Wire

/-- The text of bytes. -/
def ofL (l : List UInt8) : ByteArray := ⟨l.toArray⟩
theorem ofL_data (l : List UInt8) : (ofL l).data.toList = l := rfl
theorem ofL_of (x : ByteArray) : ofL x.data.toList = x := by cases x; rfl
theorem ofL_size (l : List UInt8) : (ofL l).size = l.length := by rw [Lib.size_eq, ofL_data]
/-- The text at the beginning of bytes and how many of them it has with its length; nothing and 0, if there is none. -/
def TextSays (bs s : List UInt8) (z : Nat) : Prop := (∃ r, TextAt bs s r ∧ z = (enc s.length).length + s.length) ∨ ((∀ s r, ¬ TextAt bs s r) ∧ s = [] ∧ z = 0)
theorem numSays_at {bs : List UInt8} {v s : Nat} (h : NumSays bs v s) (h0 : s ≠ 0) : NumAt bs v (bs.drop s) ∧ s = (enc v).length ∧ s ≤ 6 ∧ s ≤ bs.length ∧ v ≤ 1099511627776 := by
  rcases h with ⟨r, h1, h2⟩ | ⟨_, _, h2⟩
  · have : bs.drop s = r := by rw [h2, h1.2, List.drop_left]
    exact ⟨by rw [this]; exact h1, h2, by rw [h2]; exact enc_six h1.1, by rw [h2, h1.2, List.length_append]; omega, h1.1⟩
  · exact absurd h2 h0
theorem numSays_no {bs : List UInt8} {v : Nat} (h : NumSays bs v 0) : (∀ v r, ¬ NumAt bs v r) ∧ v = 0 := by
  rcases h with ⟨r, h1, h2⟩ | ⟨h1, h2, _⟩
  · have := enc_pos v
    omega
  · exact ⟨h1, h2⟩

set_option maxHeartbeats 1000000 in
theorem text_any (A : Option Addr) (n c : Nat) (bs : List UInt8) (w : World) (hx : Byt w A bs) (hN : bs.length = n) (hc : n ≤ c) (hA : A = none → c = 0) (hn : n ≤ 140737488355328) :
    Calls Try.prog 31 #[.slice A n c] w fun e w' => ∃ (s : List UInt8) (z : Nat), e = .returned (.tuple #[.string (ofL s), .int .i64 z]) ∧ TextSays bs s z ∧ w = w' := by
  have HX := Lib.hid hx
  have HN := Lib.hid hN
  clear hx hN
  go_enter Try.func31, Try.ntmps31
  go_wp2_with fail
  refine (number_any A n c bs _ HX.out HN.out hc).mono ?_
  rintro e w1 ⟨v, L, rfl, hs, rfl⟩
  have HS := Lib.hid hs
  clear hs
  by_cases h0 : L = 0
  · subst h0
    have HR : Hid (TextSays bs [] 0) := .inr ⟨fun s r => textAt_none (numSays_no HS.out).1 s r, rfl, rfl⟩
    go_wp2_with fail
    go_ret2
    exact ⟨[], 0, rfl, HR.out, rfl⟩
  · obtain ⟨h1, h2, h3, h4, h5⟩ := numSays_at HS.out h0
    have hd0 : decide ((L : Int) = 0) = false := by simp; omega
    have h4' : L ≤ n := by rw [← HN.out]; exact h4
    have hrl : (bs.drop L).length = n - L := by rw [List.length_drop, HN.out]
    by_cases hlt : n - L < v
    · have HR : Hid (TextSays bs [] 0) := .inr ⟨fun s r ht => by
        obtain ⟨h6, _⟩ := (textAt_num h1 s r).1 ht
        omega, rfl, rfl⟩
      have hd1 : decide ((n : Int) - (L : Int) < (v : Int)) = true := by simp; omega
      clear h1 h2 hrl
      go_wp2_with fail
      go_ret2
      exact ⟨[], 0, rfl, HR.out, rfl⟩
    · have hd1 : decide ((n : Int) - (L : Int) < (v : Int)) = false := by simp; omega
      have HR : Hid (TextSays bs ((bs.drop L).take v) (L + v)) := by
        have ht := (textAt_num h1 ((bs.drop L).take v) ((bs.drop L).drop v)).2 ⟨by omega, rfl, rfl⟩
        have hl : ((bs.drop L).take v).length = v := by rw [List.length_take]; omega
        exact .inl ⟨_, ht, by rw [hl, ← h2]⟩
      have hne : bs ≠ [] := fun e => by subst e; simp at h4; omega
      obtain ⟨b, o, rfl, hb, _⟩ := HX.out hne
      clear hA
      by_cases hca : c = L
      · obtain rfl : v = 0 := by omega
        obtain rfl : n = L := by omega
        rw [List.take_zero] at HR
        have hcv := run_text_of (w := w) (c := 0) (b := b) (o := o) (n := 0) (bs := []) (byt_nil _ _) rfl
        clear h1 h2 hrl hne
        go_wp2_with fail
        go_ret2
        exact ⟨[], n + 0, rfl, HR.out, rfl⟩
      · have hcv := run_text_of (c := c - L) ((HX.out.drop L).take v) (show ((bs.drop L).take v).length = v by rw [List.length_take]; omega)
        clear h1 h2 hrl hne
        generalize (bs.drop L).take v = s at *
        go_wp2_with fail
        go_ret2
        exact ⟨s, L + v, rfl, HR.out, rfl⟩

/-- The number at the beginning of bytes, what stands behind it, and whether there is one. -/
def NumOut (bs : List UInt8) (v : Nat) (r : List UInt8) (b : Bool) : Prop := (b = true ∧ NumAt bs v r) ∨ (b = false ∧ (∀ v r, ¬ NumAt bs v r) ∧ v = 0 ∧ r = [])
theorem NumOut.one {bs : List UInt8} {v v' : Nat} {r r' : List UInt8} {b b' : Bool} (h : NumOut bs v r b) (h' : NumOut bs v' r' b') : v = v' ∧ r = r' ∧ b = b' := by
  rcases h with ⟨rfl, h⟩ | ⟨rfl, h1, rfl, rfl⟩ <;> rcases h' with ⟨rfl, h'⟩ | ⟨rfl, h1', rfl, rfl⟩
  · obtain ⟨e1, e2⟩ := h.one h'
    exact ⟨e1, e2, rfl⟩
  · exact absurd h (h1' _ _)
  · exact absurd h' (h1 _ _)
  · exact ⟨rfl, rfl, rfl⟩
/-- The text at the beginning of bytes, what stands behind it, and whether there is one. -/
def TextOut (bs s r : List UInt8) (b : Bool) : Prop := (b = true ∧ TextAt bs s r) ∨ (b = false ∧ (∀ s r, ¬ TextAt bs s r) ∧ s = [] ∧ r = [])
theorem TextOut.one {bs s s' r r' : List UInt8} {b b' : Bool} (h : TextOut bs s r b) (h' : TextOut bs s' r' b') : s = s' ∧ r = r' ∧ b = b' := by
  rcases h with ⟨rfl, h⟩ | ⟨rfl, h1, rfl, rfl⟩ <;> rcases h' with ⟨rfl, h'⟩ | ⟨rfl, h1', rfl, rfl⟩
  · obtain ⟨e1, e2⟩ := h.one h'
    exact ⟨e1, e2, rfl⟩
  · exact absurd h (h1' _ _)
  · exact absurd h' (h1 _ _)
  · exact ⟨rfl, rfl, rfl⟩
/-- The list of at most so many texts at the beginning of bytes, what stands behind it, and whether there is one. -/
def TakeOut (bs : List UInt8) (most : Int) (l : List (List UInt8)) (r : List UInt8) (b : Bool) : Prop :=
  (b = true ∧ TakeAt bs l r ∧ (l.length : Int) ≤ most) ∨ (b = false ∧ (∀ l r, TakeAt bs l r → ¬ (l.length : Int) ≤ most) ∧ l = [] ∧ r = [])
theorem TakeOut.one {bs : List UInt8} {most : Int} {l l' : List (List UInt8)} {r r' : List UInt8} {b b' : Bool} (h : TakeOut bs most l r b) (h' : TakeOut bs most l' r' b') : l = l' ∧ r = r' ∧ b = b' := by
  rcases h with ⟨rfl, h, hm⟩ | ⟨rfl, h1, rfl, rfl⟩ <;> rcases h' with ⟨rfl, h', hm'⟩ | ⟨rfl, h1', rfl, rfl⟩
  · obtain ⟨e1, e2⟩ := h.one h'
    exact ⟨e1, e2, rfl⟩
  · exact absurd hm (h1' _ _ h)
  · exact absurd hm' (h1 _ _ h')
  · exact ⟨rfl, rfl, rfl⟩

def NumRet (w : World) (bs : List UInt8) (e : Ending) (w' : World) : Prop :=
  ∃ (v : Nat) (r : List UInt8) (b : Bool) (S : Value), e = .returned (.tuple #[.int .i64 v, S, .bool b]) ∧ NumOut bs v r b ∧ BSo w.heap.size w' S r ∧ Below w.heap.size w w'
def TextRet (w : World) (bs : List UInt8) (e : Ending) (w' : World) : Prop :=
  ∃ (s r : List UInt8) (b : Bool) (S : Value), e = .returned (.tuple #[.string (ofL s), S, .bool b]) ∧ TextOut bs s r b ∧ BSo w.heap.size w' S r ∧ Below w.heap.size w w'

set_option maxHeartbeats 1000000 in
theorem num_any (A : Option Addr) (n c : Nat) (bs : List UInt8) (w : World) (hx : Byt w A bs) (hN : bs.length = n) (hc : n ≤ c) (hA : A = none → c = 0) (hn : n ≤ 140737488355328) :
    Calls Try.prog 13 #[.slice A n c] w (NumRet w bs) := by
  have HX := Lib.hid hx
  have HN := Lib.hid hN
  have HA := Lib.hid hA
  clear hx hN hA
  go_enter Try.func13, Try.ntmps13
  go_wp2_with fail
  refine (number_any A n c bs _ HX.out HN.out hc).mono ?_
  rintro e w1 ⟨v, L, rfl, hs, rfl⟩
  have HS := Lib.hid hs
  clear hs
  by_cases h0 : L = 0
  · subst h0
    have HR : Hid (NumOut bs 0 [] false) := .inr ⟨rfl, (numSays_no HS.out).1, rfl, rfl⟩
    go_wp2_with fail
    go_ret3
    exact ⟨0, [], false, _, rfl, HR.out, bso_nil _ _, Below.refl _ _⟩
  · obtain ⟨h1, h2, h3, h4, h5⟩ := numSays_at HS.out h0
    have hd0 : decide ((L : Int) = 0) = false := by simp; omega
    have h4' : L ≤ n := by rw [← HN.out]; exact h4
    have HR : Hid (NumOut bs v (bs.drop L) true) := .inl ⟨rfl, h1⟩
    clear h1 h2
    go_wp2_with fail
    refine (behind_own A n c L bs _ _ HX.out HN.out hc HA.out h4' hn rfl).mono ?_
    rintro e w1 ⟨S, M, rfl, ho, hb⟩
    have HO := Lib.hid ho
    have HB := Lib.hid hb
    clear ho hb
    go_wp2_with fail
    go_ret3
    exact ⟨v, _, true, S, rfl, HR.out, bso_own HO.out, HB.out⟩
theorem textSays_at {bs s : List UInt8} {z : Nat} (h : TextSays bs s z) (h0 : z ≠ 0) : TextAt bs s (bs.drop z) ∧ z ≤ bs.length ∧ s.length ≤ z := by
  rcases h with ⟨r, h1, h2⟩ | ⟨_, _, h2⟩
  · have : bs.drop z = r := by rw [h2, h1.2, ← List.append_assoc, ← List.length_append, List.drop_left]
    exact ⟨by rw [this]; exact h1, by rw [h2, h1.2, List.length_append, List.length_append]; omega, by omega⟩
  · exact absurd h2 h0
theorem textSays_no {bs s : List UInt8} (h : TextSays bs s 0) : (∀ s r, ¬ TextAt bs s r) ∧ s = [] := by
  rcases h with ⟨r, h1, h2⟩ | ⟨h1, h2, _⟩
  · have := enc_pos s.length
    omega
  · exact ⟨h1, h2⟩
set_option maxHeartbeats 1000000 in
theorem wtext_any (A : Option Addr) (n c : Nat) (bs : List UInt8) (w : World) (hx : Byt w A bs) (hN : bs.length = n) (hc : n ≤ c) (hA : A = none → c = 0) (hn : n ≤ 140737488355328) :
    Calls Try.prog 15 #[.slice A n c] w (TextRet w bs) := by
  have HX := Lib.hid hx
  have HN := Lib.hid hN
  have HA := Lib.hid hA
  clear hx hN hA
  go_enter Try.func15, Try.ntmps15
  go_wp2_with fail
  refine (text_any A n c bs _ HX.out HN.out hc HA.out hn).mono ?_
  rintro e w1 ⟨s, L, rfl, hs, rfl⟩
  have HS := Lib.hid hs
  clear hs
  by_cases h0 : L = 0
  · subst h0
    have HR : Hid (TextOut bs [] [] false) := .inr ⟨rfl, (textSays_no HS.out).1, rfl, rfl⟩
    go_wp2_with fail
    go_ret3
    exact ⟨[], [], false, _, rfl, HR.out, bso_nil _ _, Below.refl _ _⟩
  · obtain ⟨h1, h4, _⟩ := textSays_at HS.out h0
    have hd0 : decide ((L : Int) = 0) = false := by simp; omega
    have h4' : L ≤ n := by rw [← HN.out]; exact h4
    have HR : Hid (TextOut bs s (bs.drop L) true) := .inl ⟨rfl, h1⟩
    clear h1
    go_wp2_with fail
    refine (behind_own A n c L bs _ _ HX.out HN.out hc HA.out h4' hn rfl).mono ?_
    rintro e w1 ⟨S, M, rfl, ho, hb⟩
    have HO := Lib.hid ho
    have HB := Lib.hid hb
    clear ho hb
    go_wp2_with fail
    go_ret3
    exact ⟨s, _, true, S, rfl, HR.out, bso_own HO.out, HB.out⟩
end Go.Proofs.Ytgjjaalojelmhaa
