/-
  The contracts of package name's functions Parts, Parent, Last and Under.
  Conditions: as in the contracts of Right ('Gl').
-/
import Derived.Test.YtnknaecfjkiibaaGreatDoorCalls
namespace Go.Proofs.YtnknaecfjkiibaaGreatDoor
open Go.RowKit

theorem right_is (s : ByteArray) (w : World) (g : Gl w) (hs : s.size ≤ 140737488355328) (b : Bool) (h : Nm.rightB s = b) :
    Calls Tryz.prog 9 #[.string s] w (Ret w (.bool b)) := by
  subst h
  exact right_any s w g hs

/-- A list of texts is answered, in new memory or none. -/
def SliceRet (w : World) (xs : List ByteArray) (e : Ending) (w' : World) : Prop :=
  ∃ A n c, e = .returned (.slice A n c) ∧ xs.length = n ∧ n ≤ c ∧ (A = none → c = 0) ∧ Txt w' A xs ∧ Below w.heap.size w w'
/-- A name's parts; nothing of others. -/
def partsOf (s : ByteArray) : List ByteArray := if Nm.rightB s then Nm.parts s else []
theorem partsOf_yes {s : ByteArray} (h : Nm.rightB s = true) : partsOf s = Nm.parts s := by unfold partsOf; rw [if_pos h]
theorem partsOf_no {s : ByteArray} (h : Nm.rightB s = false) : partsOf s = [] := by unfold partsOf; rw [if_neg (by rw [h]; simp)]
theorem txt_new (w : World) (xs : List ByteArray) : Txt (w.alloc (.cells (xs.map Value.string).toArray 9)) (some ⟨w.heap.size, 0, none⟩) xs := fun _ =>
  ⟨w.heap.size, 0, rfl, by simp, fun j x hx => by
    obtain ⟨hj, rfl⟩ := List.getElem?_eq_some_iff.1 hx
    rw [Nat.zero_add]
    exact cell_alloc_texts w xs j hj⟩
theorem txt_nil (w : World) (A : Option Addr) : Txt w A [] := fun h => absurd rfl h

set_option maxHeartbeats 400000 in
theorem parts_any (s : ByteArray) (w : World) (g : Gl w) (hs : s.size ≤ 140737488355328) :
    Calls Tryz.prog 12 #[.string s] w (SliceRet w (partsOf s)) := by
  have G := Lib.hid g
  clear g
  cases hr : Nm.rightB s
  · have HP := Lib.hid (partsOf_no hr)
    have HR := Lib.hid hr
    clear hr
    go_enter Tryz.func12, Tryz.ntmps12
    go_wp2_with (go_at_call 9; refine (right_is s _ G.out hs _ HR.out).mono ?_; rintro e w' ⟨rfl, hb⟩)
    go_ret
    rw [HP.out]
    exact ⟨none, 0, 0, rfl, rfl, Nat.le_refl _, fun _ => rfl, txt_nil _ _, by assumption⟩
  · have HP := Lib.hid (partsOf_yes hr)
    have HR := Lib.hid hr
    have h40 : s.size ≤ 40 := by unfold Nm.rightB at hr; simp at hr; exact hr.1
    clear hr
    obtain ⟨xs, hxs⟩ : ∃ xs, Nm.parts s = xs := ⟨_, rfl⟩
    obtain ⟨n, hn⟩ : ∃ n, xs.length = n := ⟨_, rfl⟩
    have HX := Lib.hid hxs
    have HN := Lib.hid hn
    clear hxs hn
    go_enter Tryz.func12, Tryz.ntmps12
    go_wp2_with (go_at_call 9; refine (right_is s _ G.out hs _ HR.out).mono ?_; rintro e w' ⟨rfl, hb⟩)
    have G' := Lib.hid (G.out.below hb)
    go_wp2_with (go_at_call 25; refine (split_dot s _ G'.out (by omega) xs n HX.out HN.out).mono ?_; rintro e w'' ⟨rfl, rfl⟩)
    go_ret
    rw [HP.out, HX.out]
    exact ⟨_, n, n, rfl, HN.out, Nat.le_refl _, fun h => absurd h (by simp), txt_new _ _, hb.alloc hb.size _⟩

/-- Where a text's last dot stands; -1: there is none. -/
def dotI (s : ByteArray) : Int := Lib.lastIndexByte s 46
theorem dotI_cases (s : ByteArray) : dotI s = -1 ∨ ∃ i : Nat, i < s.size ∧ dotI s = i := by
  rcases Lib.lastIndexByte_spec s 46 with ⟨h, _⟩ | ⟨i, hi, h, _⟩
  · exact .inl h
  · exact .inr ⟨i, hi, h⟩
/-- The name without its last part and the dot; the last part. -/
def parentOf (s : ByteArray) : ByteArray := if Nm.rightB s then (if dotI s < 0 then ⟨#[]⟩ else s.extract 0 (dotI s).toNat) else ⟨#[]⟩
def lastOf (s : ByteArray) : ByteArray := if Nm.rightB s then s.extract (dotI s + 1).toNat s.size else ⟨#[]⟩
theorem parentOf_no {s : ByteArray} (h : Nm.rightB s = false) : parentOf s = ⟨#[]⟩ := by unfold parentOf; rw [h]; simp
theorem parentOf_one {s : ByteArray} (h : Nm.rightB s = true) (hd : dotI s = -1) : parentOf s = ⟨#[]⟩ := by unfold parentOf; rw [h, hd]; simp
theorem parentOf_dot {s : ByteArray} (h : Nm.rightB s = true) {i : Nat} (hd : dotI s = i) : parentOf s = s.extract 0 i := by
  unfold parentOf; rw [h, hd, if_pos rfl, if_neg (by omega), Int.toNat_natCast]
theorem lastOf_no {s : ByteArray} (h : Nm.rightB s = false) : lastOf s = ⟨#[]⟩ := by unfold lastOf; rw [h]; simp
theorem lastOf_one {s : ByteArray} (h : Nm.rightB s = true) (hd : dotI s = -1) : lastOf s = s := by
  unfold lastOf; rw [h, hd, if_pos rfl]; simp
theorem lastOf_dot {s : ByteArray} (h : Nm.rightB s = true) {i : Nat} (hd : dotI s = i) : lastOf s = s.extract (i + 1) s.size := by
  unfold lastOf; rw [h, hd, if_pos rfl, show ((i : Int) + 1).toNat = i + 1 from by omega]

theorem lastIndex_dot (s : ByteArray) (w : World) (hs : s.size ≤ 140737488355328) (I : Int) (h : dotI s = I) :
    Calls Tryz.prog 29 #[.string s, .int .u8 46] w fun e w' => e = .returned (.int .i64 I) ∧ w = w' := by
  subst h
  exact (Tryz.strings_LastIndexByte s 46 (by omega) w).mono fun e w' ⟨he, hw⟩ => ⟨he, hw.symm⟩

theorem ret_string {w : World} {a b : ByteArray} {w' : World} (h : a = b) (hb : Below w.heap.size w w') : Ret w (.string b) (.returned (.string a)) w' := ⟨by rw [h], hb⟩

set_option maxHeartbeats 400000 in
theorem parent_any (s : ByteArray) (w : World) (g : Gl w) (hs : s.size ≤ 140737488355328) :
    Calls Tryz.prog 14 #[.string s] w (Ret w (.string (parentOf s))) := by
  have G := Lib.hid g
  clear g
  cases hr : Nm.rightB s
  · have HP := Lib.hid (parentOf_no hr)
    have HR := Lib.hid hr
    clear hr
    go_enter Tryz.func14, Tryz.ntmps14
    go_wp2_with (go_at_call 9; refine (right_is s _ G.out hs _ HR.out).mono ?_; rintro e w' ⟨rfl, hb⟩)
    go_ret
    exact ret_string HP.out.symm (by assumption)
  · have HR := Lib.hid hr
    rcases dotI_cases s with hd | ⟨i, hi, hd⟩
    · have HP := Lib.hid (parentOf_one hr hd)
      have HD := Lib.hid hd
      clear hr hd
      go_enter Tryz.func14, Tryz.ntmps14
      go_wp2_with (first | (go_at_call 9; refine (right_is s _ G.out hs _ HR.out).mono ?_; rintro e w' ⟨rfl, hb⟩) | (go_at_call 29; refine (lastIndex_dot s _ hs _ HD.out).mono ?_; rintro e w' ⟨rfl, rfl⟩))
      go_ret
      exact ret_string HP.out.symm (by assumption)
    · have HP := Lib.hid (parentOf_dot hr hd)
      have HD := Lib.hid hd
      clear hr hd
      go_enter Tryz.func14, Tryz.ntmps14
      go_wp2_with (first | (go_at_call 9; refine (right_is s _ G.out hs _ HR.out).mono ?_; rintro e w' ⟨rfl, hb⟩) | (go_at_call 29; refine (lastIndex_dot s _ hs _ HD.out).mono ?_; rintro e w' ⟨rfl, rfl⟩))
      go_ret
      exact ret_string HP.out.symm (by assumption)

set_option maxHeartbeats 400000 in
theorem last_any (s : ByteArray) (w : World) (g : Gl w) (hs : s.size ≤ 140737488355328) :
    Calls Tryz.prog 16 #[.string s] w (Ret w (.string (lastOf s))) := by
  have G := Lib.hid g
  clear g
  cases hr : Nm.rightB s
  · have HP := Lib.hid (lastOf_no hr)
    have HR := Lib.hid hr
    clear hr
    go_enter Tryz.func16, Tryz.ntmps16
    go_wp2_with (go_at_call 9; refine (right_is s _ G.out hs _ HR.out).mono ?_; rintro e w' ⟨rfl, hb⟩)
    go_ret
    exact ret_string HP.out.symm (by assumption)
  · have HR := Lib.hid hr
    rcases dotI_cases s with hd | ⟨i, hi, hd⟩
    · have HP := Lib.hid (lastOf_one hr hd)
      have HD := Lib.hid hd
      clear hr hd
      go_enter Tryz.func16, Tryz.ntmps16
      go_wp2_with (first | (go_at_call 9; refine (right_is s _ G.out hs _ HR.out).mono ?_; rintro e w' ⟨rfl, hb⟩) | (go_at_call 29; refine (lastIndex_dot s _ hs _ HD.out).mono ?_; rintro e w' ⟨rfl, rfl⟩))
      go_ret
      exact ret_string (by rw [HP.out]) (by assumption)
    · have HP := Lib.hid (lastOf_dot hr hd)
      have HD := Lib.hid hd
      clear hr hd
      go_enter Tryz.func16, Tryz.ntmps16
      go_wp2_with (first | (go_at_call 9; refine (right_is s _ G.out hs _ HR.out).mono ?_; rintro e w' ⟨rfl, hb⟩) | (go_at_call 29; refine (lastIndex_dot s _ hs _ HD.out).mono ?_; rintro e w' ⟨rfl, rfl⟩))
      go_ret
      exact ret_string HP.out.symm (by assumption)

/-- Is a name another one, or does it begin with that and a dot? -/
def underB (s t : ByteArray) : Bool := Nm.rightB s && Nm.rightB t && (decide (s = t) || Lib.hasPrefix s.data.toList (t.data.toList ++ [46]))
theorem underB_no {s t : ByteArray} (h : Nm.rightB s = false) : underB s t = false := by unfold underB; rw [h]; rfl
theorem underB_no' {s t : ByteArray} (h : Nm.rightB t = false) : underB s t = false := by unfold underB; rw [h]; simp
theorem underB_self {s : ByteArray} (h : Nm.rightB s = true) : underB s s = true := by unfold underB; rw [h]; simp
theorem underB_dot {s t : ByteArray} (h : Nm.rightB s = true) (h' : Nm.rightB t = true) (he : s ≠ t) : Lib.hasPrefix s.data.toList (t ++ ⟨#[46]⟩ : ByteArray).data.toList = underB s t := by
  unfold underB
  rw [h, h', decide_eq_false he]
  simp [ByteArray.data_append]
theorem hasPrefix_is (s t : ByteArray) (w : World) (b : Bool) (h : Lib.hasPrefix s.data.toList t.data.toList = b) :
    Calls Tryz.prog 31 #[.string s, .string t] w fun e w' => e = .returned (.bool b) ∧ w = w' := by
  subst h
  exact (Tryz.strings_HasPrefix s t w).mono fun e w' ⟨he, hw⟩ => ⟨he, hw.symm⟩

set_option maxHeartbeats 400000 in
theorem under_is (s t : ByteArray) (w : World) (g : Gl w) (hs : s.size ≤ 140737488355328) (ht : t.size ≤ 140737488355328) (b : Bool) (hu : underB s t = b) :
    Calls Tryz.prog 18 #[.string s, .string t] w (Ret w (.bool b)) := by
  have G := Lib.hid g
  clear g
  cases hr : Nm.rightB s
  · obtain rfl : false = b := (underB_no hr).symm.trans hu
    have HR := Lib.hid hr
    clear hr hu
    go_enter Tryz.func18, Tryz.ntmps18
    go_wp2_with (go_at_call 9; refine (right_is s _ G.out hs _ HR.out).mono ?_; rintro e w1 ⟨rfl, hb⟩)
    go_ret
    exact ⟨rfl, hb⟩
  · cases hr' : Nm.rightB t
    · obtain rfl : false = b := (underB_no' hr').symm.trans hu
      have HR := Lib.hid hr
      have HR' := Lib.hid hr'
      clear hr hr' hu
      go_enter Tryz.func18, Tryz.ntmps18
      go_wp2_with fail
      refine (right_is s _ G.out hs _ HR.out).mono ?_
      rintro e w1 ⟨rfl, hb⟩
      have G1 := Lib.hid (G.out.below hb)
      go_wp2_with fail
      refine (right_is t _ G1.out ht _ HR'.out).mono ?_
      rintro e w2 ⟨rfl, hb2⟩
      go_wp2_with fail
      go_ret
      exact ⟨rfl, hb.trans (hb2.mono hb.size)⟩
    · by_cases he : s = t
      · subst he
        obtain rfl : true = b := (underB_self hr).symm.trans hu
        have HR := Lib.hid hr
        have he' : (s.toList == s.toList) = true := by simp
        clear hr hr' hu
        go_enter Tryz.func18, Tryz.ntmps18
        go_wp2_with fail
        refine (right_is s _ G.out hs _ HR.out).mono ?_
        rintro e w1 ⟨rfl, hb⟩
        have G1 := Lib.hid (G.out.below hb)
        go_wp2_with fail
        refine (right_is s _ G1.out ht _ HR.out).mono ?_
        rintro e w2 ⟨rfl, hb2⟩
        go_wp2_with fail
        go_ret
        exact ⟨rfl, hb.trans (hb2.mono hb.size)⟩
      · have HR := Lib.hid hr
        have HR' := Lib.hid hr'
        have HU := Lib.hid ((underB_dot hr hr' he).trans hu)
        have he' : (s.toList == t.toList) = false := by rw [bytes_eqb, decide_eq_false he]
        clear hr hr' hu he
        go_enter Tryz.func18, Tryz.ntmps18
        go_wp2_with fail
        refine (right_is s _ G.out hs _ HR.out).mono ?_
        rintro e w1 ⟨rfl, hb⟩
        have G1 := Lib.hid (G.out.below hb)
        go_wp2_with fail
        refine (right_is t _ G1.out ht _ HR'.out).mono ?_
        rintro e w2 ⟨rfl, hb2⟩
        go_wp2_with fail
        refine (hasPrefix_is s _ _ _ HU.out).mono ?_
        rintro e w3 ⟨rfl, rfl⟩
        go_wp2_with fail
        go_ret
        exact ⟨rfl, hb.trans (hb2.mono hb.size)⟩
end Go.Proofs.YtnknaecfjkiibaaGreatDoor
