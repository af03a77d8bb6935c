/-
  The contracts of layer 2 and of its reference, each at given values: what the laws take.
  Conditions: each contract's own.
-/
import Derived.Test.YtgjjaalojelmhaaRefT
namespace Go.Proofs.Ytgjjaalojelmhaa
open Go.RowKit
open Wire

theorem numOut_ex (bs : List UInt8) : ∃ v r b, NumOut bs v r b := by
  by_cases h : ∃ v r, NumAt bs v r
  · obtain ⟨v, r, h⟩ := h
    exact ⟨v, r, true, .inl ⟨rfl, h⟩⟩
  · exact ⟨0, [], false, .inr ⟨rfl, fun v r hn => h ⟨v, r, hn⟩, rfl, rfl⟩⟩
theorem textOut_ex (bs : List UInt8) : ∃ s r b, TextOut bs s r b := by
  by_cases h : ∃ s r, TextAt bs s r
  · obtain ⟨s, r, h⟩ := h
    exact ⟨s, r, true, .inl ⟨rfl, h⟩⟩
  · exact ⟨[], [], false, .inr ⟨rfl, fun v r hn => h ⟨v, r, hn⟩, rfl, rfl⟩⟩
theorem takeOut_ex (bs : List UInt8) (most : Int) : ∃ l r b, TakeOut bs most l r b := by
  by_cases h : ∃ l r, TakeAt bs l r ∧ (l.length : Int) ≤ most
  · obtain ⟨l, r, h⟩ := h
    exact ⟨l, r, true, .inl ⟨rfl, h⟩⟩
  · exact ⟨[], [], false, .inr ⟨rfl, fun v r hn hm => h ⟨v, r, hn, hm⟩, rfl, rfl⟩⟩

theorem nums_v (S : Value) (zs : List Int) (w : World) (hS : NSl w S zs) (hl : zs.length ≤ 200) (ds : List UInt8) (b : Bool) (hd : numsOf zs = ds) (hb : zs.all numB = b) :
    Calls Try.prog 11 #[S] w (OwnTup w ds b) := by
  obtain ⟨A, n, c, rfl, h1, h2, h3, h4⟩ := hS
  subst hd; subst hb
  exact nums_any A n c zs w h4 h1 (by omega)
theorem refNums_v (S : Value) (zs : List Int) (w : World) (hS : NSl w S zs) (hl : zs.length ≤ 200) (ds : List UInt8) (b : Bool) (hd : numsOf zs = ds) (hb : zs.all numB = b) :
    Calls Try.prog 12 #[S] w (BslTup w ds b) := by
  obtain ⟨A, n, c, rfl, h1, h2, h3, h4⟩ := hS
  subst hd; subst hb
  exact refNums_any A n c zs w h4 h1 (by omega)
/-- A number, what stands behind it, and whether there is one. -/
def NumV (w : World) (v : Nat) (r : List UInt8) (b : Bool) (e : Ending) (w' : World) : Prop := ∃ S, e = .returned (.tuple #[.int .i64 v, S, .bool b]) ∧ BSl w' S r ∧ Below w.heap.size w w'
def TextV (w : World) (s r : List UInt8) (b : Bool) (e : Ending) (w' : World) : Prop := ∃ S, e = .returned (.tuple #[.string (ofL s), S, .bool b]) ∧ BSl w' S r ∧ Below w.heap.size w w'
def TakeV (w : World) (l : List (List UInt8)) (r : List UInt8) (b : Bool) (e : Ending) (w' : World) : Prop := ∃ V S, e = .returned (.tuple #[V, S, .bool b]) ∧ TSl w' V (l.map ofL) ∧ BSl w' S r ∧ Below w.heap.size w w'
theorem NumRet.v {w w' : World} {bs : List UInt8} {e : Ending} (h : NumRet w bs e w') {v : Nat} {r : List UInt8} {b : Bool} (ho : NumOut bs v r b) : NumV w v r b e w' := by
  obtain ⟨v', r', b', S, he, h1, h2, h3⟩ := h
  obtain ⟨rfl, rfl, rfl⟩ := h1.one ho
  exact ⟨S, he, h2.bsl, h3⟩
theorem TextRet.v {w w' : World} {bs : List UInt8} {e : Ending} (h : TextRet w bs e w') {s r : List UInt8} {b : Bool} (ho : TextOut bs s r b) : TextV w s r b e w' := by
  obtain ⟨s', r', b', S, he, h1, h2, h3⟩ := h
  obtain ⟨rfl, rfl, rfl⟩ := h1.one ho
  exact ⟨S, he, h2.bsl, h3⟩
theorem TakeRet.v {w w' : World} {bs : List UInt8} {most : Int} {e : Ending} (h : TakeRet w bs most e w') {l : List (List UInt8)} {r : List UInt8} {b : Bool} (ho : TakeOut bs most l r b) : TakeV w l r b e w' := by
  obtain ⟨l', r', b', V, S, he, h1, h2, h3, h4⟩ := h
  obtain ⟨rfl, rfl, rfl⟩ := h1.one ho
  exact ⟨V, S, he, h2, h3, h4⟩
theorem num_v (S : Value) (bs : List UInt8) (w : World) (hS : BSl w S bs) (hl : bs.length ≤ 1000000) (v : Nat) (r : List UInt8) (b : Bool) (ho : NumOut bs v r b) : Calls Try.prog 13 #[S] w (NumV w v r b) := by
  obtain ⟨A, n, c, rfl, h1, h2, h3, h4⟩ := hS
  exact (num_any A n c bs w h4 h1 h2 h3 (by omega)).mono fun e w' h => h.v ho
theorem refNum_v (S : Value) (bs : List UInt8) (w : World) (hS : BSl w S bs) (hl : bs.length ≤ 1000000) (v : Nat) (r : List UInt8) (b : Bool) (ho : NumOut bs v r b) : Calls Try.prog 14 #[S] w (NumV w v r b) :=
  (refNum_any S bs w hS (by omega)).mono fun e w' h => h.v ho
theorem text_v (S : Value) (bs : List UInt8) (w : World) (hS : BSl w S bs) (hl : bs.length ≤ 1000000) (s r : List UInt8) (b : Bool) (ho : TextOut bs s r b) : Calls Try.prog 15 #[S] w (TextV w s r b) := by
  obtain ⟨A, n, c, rfl, h1, h2, h3, h4⟩ := hS
  exact (wtext_any A n c bs w h4 h1 h2 h3 (by omega)).mono fun e w' h => h.v ho
theorem refText_v (S : Value) (bs : List UInt8) (w : World) (hS : BSl w S bs) (hl : bs.length ≤ 1000000) (s r : List UInt8) (b : Bool) (ho : TextOut bs s r b) : Calls Try.prog 16 #[S] w (TextV w s r b) :=
  (refText_any S bs w hS (by omega)).mono fun e w' h => h.v ho
theorem take_v (S : Value) (bs : List UInt8) (most : Int) (w : World) (hS : BSl w S bs) (hl : bs.length ≤ 5000000) (l : List (List UInt8)) (r : List UInt8) (b : Bool) (ho : TakeOut bs most l r b) : Calls Try.prog 17 #[S, .int .i64 most] w (TakeV w l r b) := by
  obtain ⟨A, n, c, rfl, h1, h2, h3, h4⟩ := hS
  exact (take_any A n c bs most w h4 h1 h2 h3 (by omega)).mono fun e w' h => h.v ho
theorem refTake_v (S : Value) (bs : List UInt8) (most : Int) (w : World) (hS : BSl w S bs) (hl : bs.length ≤ 5000000) (l : List (List UInt8)) (r : List UInt8) (b : Bool) (ho : TakeOut bs most l r b) : Calls Try.prog 18 #[S, .int .i64 most] w (TakeV w l r b) :=
  (refTake_any S bs most w hS (by omega)).mono fun e w' h => h.v ho
theorem texts_v (S : Value) (xs : List ByteArray) (w : World) (hS : TSl w S xs) (hl : xs.length ≤ 3000) (hs : ∀ x ∈ xs, x.size ≤ 3000) (ds : List UInt8) (hd : textsE (txtsL xs) = ds) : Calls Try.prog 21 #[S] w (OwnRet w.heap.size w ds) := by
  obtain ⟨A, n, c, rfl, h1, h2, h3, h4⟩ := hS
  exact texts_own A n c xs w h4 h1 (by omega) hs ds hd
theorem list_v (S : Value) (xs : List ByteArray) (w : World) (hS : TSl w S xs) (hl : xs.length ≤ 3000) (hs : ∀ x ∈ xs, x.size ≤ 3000) (ds : List UInt8) (hd : enc xs.length ++ textsE (txtsL xs) = ds) : Calls Try.prog 23 #[S] w (OwnRet w.heap.size w ds) := by
  obtain ⟨A, n, c, rfl, h1, h2, h3, h4⟩ := hS
  exact list_own A n c xs w h4 h1 (by omega) hs ds (by rw [← h1]; exact hd)
theorem refTexts_v (S : Value) (xs : List ByteArray) (w : World) (hS : TSl w S xs) (hl : xs.length ≤ 3000) (hs : ∀ x ∈ xs, x.size ≤ 3000) (ds : List UInt8) (hd : textsE (txtsL xs) = ds) : Calls Try.prog 22 #[S] w (OwnRet w.heap.size w ds) := by
  obtain ⟨A, n, c, rfl, h1, h2, h3, h4⟩ := hS
  exact (refTexts_own A n c xs w h4 h1 (by omega) hs ds hd).mono fun e w' h => h.1
theorem refList_v (S : Value) (xs : List ByteArray) (w : World) (hS : TSl w S xs) (hl : xs.length ≤ 3000) (hs : ∀ x ∈ xs, x.size ≤ 3000) (ds : List UInt8) (hd : enc xs.length ++ textsE (txtsL xs) = ds) : Calls Try.prog 24 #[S] w (OwnRet w.heap.size w ds) := by
  obtain ⟨A, n, c, rfl, h1, h2, h3, h4⟩ := hS
  exact refList_own A n c xs w h4 h1 (by omega) hs ds (by rw [← h1]; exact hd)
theorem sameTexts_b (S T : Value) (xs ys : List ByteArray) (w : World) (hx : TSl w S xs) (hy : TSl w T ys) (hlx : xs.length ≤ 140737488355328) (b : Bool) (hb : decide (xs = ys) = b) :
    Calls Try.prog 25 #[S, T] w (Ret w (.bool b)) := by
  obtain ⟨A, n, c, rfl, h1, h2, h3, h4⟩ := hx
  obtain ⟨A', n', c', rfl, h1', h2', h3', h4'⟩ := hy
  subst hb; subst h1; subst h1'
  exact (sameTexts_any A A' c c' xs ys w h4 h4' hlx).mono fun e w' ⟨he, q, hw⟩ => ⟨he, by subst hw; exact quietBelow w q⟩
/-- What 'great' answers says: if not, the list and the bytes are short. -/
def Small2 (xs : List ByteArray) (bs : List UInt8) : Prop := xs.length ≤ 2000 ∧ (∀ x ∈ xs, x.size ≤ 2000) ∧ bs.length ≤ 3000
theorem great_any (S T : Value) (xs : List ByteArray) (bs : List UInt8) (w : World) (hx : TSl w S xs) (hy : BSl w T bs) (hlx : xs.length ≤ 140737488355328) (hs : ∀ x ∈ xs, x.size ≤ 140737488355328) (hlb : bs.length ≤ 140737488355328) :
    Calls Try.prog 9 #[S, T] w fun e w' => (∃ b, e = .returned (.bool b) ∧ (b = false → Small2 xs bs)) ∧ w = w' := by
  obtain ⟨A, n, c, rfl, h1, h2, h3, h4⟩ := hx
  obtain ⟨A', n', c', rfl, h1', h2', h3', h4'⟩ := hy
  have HX := Lib.hid h4
  have HN := Lib.hid h1
  have HN' := Lib.hid h1'
  have HS := Lib.hid hs
  have hn : n ≤ 140737488355328 := by rw [← h1]; exact hlx
  have hn' : n' ≤ 140737488355328 := by rw [← h1']; exact hlb
  clear h4 h1 h1' h4' hs hlx hlb
  go_enter Try.func9, Try.ntmps9
  go_wp2_with fail
  refine (lengths_any A c n xs _ HX.out hn HN HS.out).mono ?_
  rintro e w1 ⟨⟨L, rfl, hL⟩, rfl⟩
  have HL := Lib.hid hL
  clear hL
  by_cases hl : 2000 < L
  · have hd : decide ((2000 : Int) < (L : Int)) = true := by simp; omega
    go_wp2_with fail
    go_ret
    exact ⟨⟨true, rfl, fun h => by cases h⟩, rfl⟩
  · have hd : decide ((2000 : Int) < (L : Int)) = false := by simp; omega
    by_cases hb : 3000 < n'
    · have hd2 : decide ((3000 : Int) < (n' : Int)) = true := by simp; omega
      go_wp2_with fail
      go_ret
      exact ⟨⟨true, rfl, fun h => by cases h⟩, rfl⟩
    · have hd2 : decide ((3000 : Int) < (n' : Int)) = false := by simp; omega
      go_wp2_with fail
      go_ret
      exact ⟨⟨false, rfl, fun _ => ⟨(HL.out (by omega)).1, (HL.out (by omega)).2, by rw [HN'.out]; omega⟩⟩, rfl⟩
end Go.Proofs.Ytgjjaalojelmhaa
